import PyProof.Rows.All
import Wide.All
import OpenK.AllK
import Wide.FinOn
import Lean
import PyProof.EqAt
import PyProof.EqKinds
import PyProof.TupleCall
import PyProof.ExcInit
import PyProof.ExcClass2
import PySem.Challenge.RW_roadsall_k03_no_sums
set_option Elab.async false
set_option linter.all false
set_option maxRecDepth 100000
set_option maxHeartbeats 4000000
noncomputable section
abbrev VP:=PySem.Value->PySem.Shared->Prop
abbrev PN:=List (PySem.Addr×PySem.Obj)
abbrev SV:=PySem.Str->Option PySem.Value
abbrev Aa:=PySem.Addr->Prop
abbrev LS:=List PySem.Str
abbrev LV:=List PySem.Value
abbrev Ab:=List PySem.Expr
abbrev OV:=Option PySem.Value
abbrev FG:=PySem.W.Frag
abbrev bq:=@of_decide_eq_true
abbrev ai:=@if_pos
abbrev ar:=@if_neg
abbrev cC:=@decide_eq_false
abbrev fE:=@decide_eq_true
abbrev jF:=@decide_eq_true_eq
abbrev dz:=@congrArg
abbrev em:=@iff_false
abbrev ls:=@beq_eq_false_iff_ne
abbrev gW:=@if_false
abbrev eG:=@if_true
abbrev jU:=@beq_iff_eq
abbrev nr:=@eq_false
abbrev nq:=@eq_true
open PySem.Heap renaming get?_push_of_some->bM,lt_size->bg,get?_push_size->eF,SameBut->iX,get?_update_other->qM,FlyingW->nl,get?_none_of_le->uK,size_push->uJ,MadeExcOf->uI,get?_update_self->z0,get?_some_iff->zZ
open PySem.W renaming mg_of->aq,kitOne->bp,nsIn->bo,findIn->cS,kia_one->dA,keepIn->eY,emptyDict->hP,instObj->iW,looks_findIn->jT,callWith_K->nk,kitx_list->nj,kitAny->kW,fnOf->jS,exmOne->kU,methodCall_KW->pY,hideAll->ni,kitCls->nh,specialIn->pX,hasDictIn->pW,mroIn->ng,plainGet->pV,cellsFrom_some->uH,lookIn->pU,codeIn->pT,looks_mroIn->pS,plainGet_of->uG,clsIn->pR,methodObj->uF,kitx_none->uE,takesIn->uD,takerIn->uC,tailIn->uB,nsOkIn->uA,isFn->uz,looks_clsIn->uy,hideAll_none->zY,hideAll_get->zX,findObj_own->zW,callWith_K0->zV,tail_of_in->zU,of_hideAll->zT,kitx_tuple->zS,codeRec_of->zR,plainOver->zQ,kitx_dict->zP,handedIn->zO,makesIn->zN,kia_tup->zM,OpenLaw->zL,WalkO->zK,Looks->zJ,mg_none_of->zI,set_plain->zH,handed_on->zG
open PySem renaming wpAny_bind->ae,wpAny_pure->aJ,wpAny_mono->bm,wpAny_holding->gJ,codeAny_mono->hJ,wpAny_passesOwn->jR,mem_of_lookup->nc,intText?->kT,wpAny_loadPart'->kS,wpAny_call->hI,wpAny_Call_Name_kw->na,wpAny_getItem_str_slice->pQ,wpAny_truthy_bool->m_,wpAny_newObj_type->m9,wpAny_loadPart_at->m7,codeAny_call_builtin->pP,tupleKind_room_in1->pO,call_meets->jQ,wpAny_standAt->mZ,wpAny_execs_nil->pN,post_val_or_str->pM,sizeLine_eq->kl,typeIs_int->kj,wpAny_typeOf->mP,plainObj_wpAny_Assign_Attribute->xH,noFill_tuple_add->q8,Within->q7,wpAny_newFunctionEnv_cells->xG,wpAny_binaryOp_repeat_ref->xF,wpAny_attempt->qZ,seq_tuple_add->qY,wpAny_callSpecial?_slot->xE,wpAny_pyNext_range_end->xD,wpAny_pyIter_rangeiter->xB,seqSlot_of->xA,concat_meets->qX,codeAny_call_function->xz,wpAny_loadName_local->xy,wpAny_field->qW,wpAny_loadName_cell->xx,wpAny_isSubtype_exc->xw,wpAny_pyIter_range->xu,wpAny_Name->qV,typeIs_str->qU,wpAny_sequenceKey->xt,wpAny_assign_Name->xr,wpAny->xq,slot_list_getitem->xn,slot_dict_getitem->xm,wpAny_lookBehind->xl,wpAny_getItem_of->xk,wpAny_execs_cons->xj,wpAny_call_entry->xh,wpAny_Try_except->xg,pastItsLine_dict->xf,wpAny_loadPart->xc,evalPart_none->xb
open Nat renaming le_refl->aw,lt_of_lt_of_le->bG,ne_of_lt->bO,le_trans->bN,zero_le->dn,lt_succ_self->h7,lt_irrefl->gw,not_lt_zero->ki,min_eq_left->mO,reduceSub->mN,reduceAdd->mM,lt_of_le_of_lt->qT,mul_comm->mL,zero_add->qS,succ_mul->qR,le_of_lt->qQ,log2_lt->qP,le_succ->qO,not_lt->qN,sub_zero->xa,ne_of_gt->w_,lt_trans->w9,le_of_eq->w8,add_comm->w6
open List renaming mem_cons->av,length_append->aN,mem_cons_of_mem->a_,getElem?_eq_some_iff->bt,mem_cons_self->aZ,length_cons->aS,map_cons->aU,size_toArray->bB,mem_append_right->b_,getElem?_set_ne->cr,getElem?_set_self->dm,replicate_succ->cH,getElem?_append_left->d1,all_eq_true->b9,mem_of_getElem?->dj,length_take->cG,takeWhile_append_dropWhile->gv,append_assoc->di,eq_nil_of_length_eq_zero->gu,nil_append->cT,length_nil->dh,getElem?_append_right->gp,length_set->dM,length_map->dL,append_nil->dZ,lookup->cF,flatten_cons->eM,length_replicate->gn,map_nil->df,mem_append_left->gm,length_drop->eL,takeWhile_cons->gk,getElem?_take_of_lt->jt,any_cons->ep,nodup_cons->fk,foldl_cons->gj,length->eo,cons_append->hZ,mem_filterMap->js,find?_cons->hX,getElem?_map->jr,mem_of_find?_eq_some->mK,length_pos_iff->kh,mem_append->jq,mem_map->hV,take_append_drop->mJ,lookup_cons->kg,map_append->kf,filterMap_cons->mI,mem_replicate->mH,drop_zero->ke,reverse_cons->mG,isEmpty_iff->mF,getElem?_replicate->qL,any_eq_true->mE,of_mem_zip->mD,mem_filter->mB,find?_some->mz,getElem?_eq_none->qK,mem_of_mem_take->qJ,zip_cons_cons->qI,contains_cons->qH,drop_length->qG,dropLast_concat_getLast->w5,foldl->my,drop_eq_getElem_cons->wZ,getElem?_eq_getElem->wY,getElem?_cons_zero->wX,getElem?_cons_succ->wW,map_map->qF,length_singleton->wV,dropLast_eq_take->wU,replicate_succ'->wR,mem_of_mem_drop->wQ,length_dropLast->wP,set_cons_zero->wO,set_cons_succ->wN,take_sublist->wM,nodup_append->wL,take_length->wK,reverse_nil->wJ,mem_reverse->wI,mem_range->wH,all_cons->wG,set_set->wF,any_nil->wE
open Option renaming map_eq_some_iff->dJ,bind_some->eK,map_some->kc,map->mx,isSome_iff_exists->wD,isSome_map->wC,getD_none->wA
open Option.some renaming inj->hU,injEq->Dp
open Array renaming length_toList->qE,getElem?_toList->wz,find?_toList->wy,append_assoc->ww,size_append->wv,toList->wu
open Ne renaming symm->bZ
open PySem.Calls renaming spliced_cons->mw,callWith_builtin->qD,evalArgs_plain->qC,spliced_nil->qB,Name_function_global->wt
open PyProof.Rows renaming slot_tuple_getitem->hT,boot_isinstance->qA,callWith_type1->qz,boot_int->wr,reads_list_at->qy,subscriptTail_builtinR->wq,iadd_int->wo,tail_any->mv,entry_tuple_getitem->wn,args_tuple_getitem->wm,callWith_builtin1->Do,boot_tuple->Dn,boot_str->Dm,boot_min->Dl,boot_max->Dk,boot_bool->Dj,slicePart_none->wl,reads_tuple_at->wk,tupleItemsOf_->wj
open Bool renaming and_eq_true->aC,false_ne_true->bA,false_eq_true->fj,or_eq_true->jp,not_eq_true'->mu,eq_iff_iff->mq,false_and->qx,or_false->qw,false_or->qv,or_true->qu,or_eq_true_iff->wh,not_true->wg
open PySem.Builtin.Range renaming rangeSize->gi,small->Di,rangeFitsLong->Dh
open PySem.EqNone renaming ne_str_none->Dg,ne_none_str->De,ne_none_none->Dd,ne_none_int->Dc,ne_none_bool->Db,ne_int_none->C_,ne_bool_none->C9,eq_str_none->C8,eq_none_str->C7,eq_none_none->C6,eq_none_int->C5,eq_none_bool->C4,eq_int_none->C3,eq_bool_none->C1
open PySem.EqMixed renaming ne_str_int->C0,ne_str_bool->CZ,ne_int_str->CY,ne_bool_str->CW,eq_str_int->CV,eq_str_bool->CU,eq_int_str->CT,eq_bool_str->CS
open PySem.Builtin.Str renaming occurrences->mn,strSliceIndices->qq
open PySem.W.Looks renaming here->mm,ld->wf
open PySem.Code renaming quiet_builtin->qo,isFrame->qm,frames->we
open PySem.F renaming slot_tuple_mul->ml,slot_int_rmul->mj,args_tuple_add_2->qh,entry_tuple_add->qg,slot_tuple_add->qf,slot_dict_get->qd,attrBase_ValueError->wd,excBase_ValueError->wc,args_tuple_mul_2->wa,slot_tuple_rmul->v_,plainAttrs_list->v9,entry_tuple_mul->v0,args_dict_get_3->vZ,entry_dict_get->vY,entry_bexc_ga->vX,args_bexc_ga->vW,slot_list_append->vV,args_int_rmul_2->vU,slot_int_index->vT,entry_int_rmul->vS,slot_list_pop->vR,fills_int_mul->vQ
open PySem.Builtin.Slice renaming slicePlaces->mh,sliceAdjust->qc,sliceApplied->vO,slicePartIndex->CQ,sliceFields->CP
open PySem.Builtin.Tuple renaming tupleExact->me,tupleItemsOf->vN,tupleTooMany->CO
open PySem.Str renaming length->jo,ofString_eq_toList->vM
open PySem.Builtin.List renaming listTooLong->p_
open Int renaming emod_lt_of_pos->eJ,emod_nonneg->dY,toNat_of_nonneg->vL,natCast_mul->vK
open PySem.PyData renaming eqv->fh,depth->md,canLayAll0->p9,depthAll->p0,strOk->pZ
open PySem.AutoSeq1 renaming sub_tuple_tuple->vJ,idx_int->vI
open PySem.Txt renaming slice_le->ma
open PySem.StrLaws renaming sliceText->jn,sliceText_to->CN,sliceText_plain->CM,sliceText_from->CL
set_option tactic.hygienic false
namespace L2
open PySem PySem.Spec PyProof.Rows
noncomputable abbrev dX:=Sum Int Str
noncomputable def ph:dX->Value->Bool
 | .inl k,v=>Value.isInt k v
 | .inr x,v=>Value.isStrOf x v
noncomputable def Nt(w:World):dX->Int
 | .inl k=>hashInt k
 | .inr x=>hashStr w x
theorem cv:∀{k:dX}{v:Value},ph k v=true->(∃i t,k=Sum.inl i/\v=Value.int i t)\/(∃x t,k=Sum.inr x/\v=Value.str x t)
 | .inl i,v,h=>by obtain⟨t,e⟩:=Value.isInt_shape (k:=i) (v:=v) h;exact .inl ⟨i,t,rfl,e⟩
 | .inr x,v,h=>by obtain⟨t,e⟩:=Value.isStrOf_shape (x:=x) (v:=v) h;exact .inr ⟨x,t,rfl,e⟩
theorem y8(i:Int)(t:Tok):ph (.inl i) (.int i t)=true:=by simp[ph,Value.isInt]
theorem y7(x:Str)(t:Tok):ph (.inr x) (.str x t)=true:=by simp[ph,Value.isStrOf]
theorem Hq(a b:Int):decide ((Sum.inl a:dX)=Sum.inl b)=(a == b):=by
 by_cases e:a=b
 .subst e;simp
 .have h:¬(Sum.inl a:dX)=Sum.inl b:=λq=>e (Sum.inl.inj q);rw[cC h];exact(ls.mpr e).symm
theorem Hm(a b:Str):decide ((Sum.inr a:dX)=Sum.inr b)=decide (a=b):=by
 by_cases e:a=b
 .subst e;simp
 .have h:¬(Sum.inr a:dX)=Sum.inr b:=λq=>e (Sum.inr.inj q);rw[cC h,cC e]
theorem Ho(a:Int)(b:Str):decide ((Sum.inl a:dX)=Sum.inr b)=false:=cC (λq=>nomatch q)
theorem Hn(a:Str)(b:Int):decide ((Sum.inr a:dX)=Sum.inl b)=false:=cC (λq=>nomatch q)
def bJ(prog:Program)(w:World):PySem.KeyKind prog w dX where
 is:=ph
 hash:=Nt w
 inj:=λv a b c f=>by
  rcases cv c with ⟨i,t,rfl,rfl⟩|⟨x,t,rfl,rfl⟩
  .rcases cv f with ⟨j,u,rfl,e⟩|⟨y,u,rfl,e⟩
   .injection e with s _;rw[s]
   .exact nomatch e
  .rcases cv f with ⟨j,u,rfl,e⟩|⟨y,u,rfl,e⟩
   .exact nomatch e
   .injection e with s _;rw[s]
 byValue:=λk v h=>by rcases cv h with ⟨i,t,rfl,rfl⟩|⟨x,t,rfl,rfl⟩<;>rfl
 pyHash:=λn h=>by
  rcases cv n with ⟨i,t,rfl,rfl⟩|⟨x,t,rfl,rfl⟩
  .exact wpAny_pyHash_int h
  .exact wpAny_pyHash_str h
 eqBool:=λm n h=>by
  rcases cv m with ⟨i,t,rfl,rfl⟩|⟨x,t,rfl,rfl⟩
  .rcases cv n with ⟨j,u,rfl,rfl⟩|⟨y,u,rfl,rfl⟩
   .rw [Hq]at h;exact wpAny_eqBool_int h
   .rw [Ho]at h;exact SeqAt.EqAt.int_str i t y u _ _ _ _ h
  .rcases cv n with ⟨j,u,rfl,rfl⟩|⟨y,u,rfl,rfl⟩
   .rw [Hn]at h;exact SeqAt.EqAt.str_int x t j u _ _ _ _ h
   .rw [Hm]at h;exact wpAny_eqBool_str h
 «strs»:=λk x t v h=>by
  rcases cv h with ⟨i,u,rfl,e⟩|⟨y,u,rfl,e⟩
  .exact nomatch e
  .injection e with s _;subst s;cases v<;>rfl
theorem tP(prog:Program)(w:World)(i:Int)(t:Tok):(bJ prog w).is (.inl i) (.int i t)=true:=y8 i t
theorem i9(prog:Program)(w:World)(x:Str)(t:Tok):(bJ prog w).is (.inr x) (.str x t)=true:=y7 x t
inductive V where
 |non|bl (b:Bool)|int (i:Int)|str (x:Str)|byt (b:Array UInt8)|flt (b:UInt64)|ref (a:Addr)|ty (n:String)
 deriving DecidableEq
def RelV:V->Value->Prop
 | .non,u=>u=Value.none
 | .bl b,u=>u=Value.bool b
 | .int i,u=>∃t,u=Value.int i t
 | .str x,u=>∃t,u=Value.str x t
 | .byt b,u=>∃t,u=Value.bytes b t
 | .flt b,u=>∃t,u=Value.float b t
 | .ref a,u=>u=Value.ref a
 | .ty n,u=>u=Value.type n
abbrev bi:List V->LV->Prop:=Paired RelV
variable{q:LV}
theorem bi.length(r:bi xs q):xs.length=q.length:=Paired.length r
theorem bi.get:∀{xs:List V}{q:LV}{i:Nat}{x:V},bi xs q->xs[i]? = some x->∃u,q[i]? = some u/\RelV x u
 |_,_,_,_,.nil,e=>by simp at e
 |_,_,0,_,.cons r _,e=>by simp at e;subst e;exact⟨_,rfl,r⟩
 |_,_,i+1,x,.cons _ t,e=>by obtain⟨u,I,h2⟩:=bi.get (i:=i) (x:=x) t (by simpa using e);exact⟨u,by simpa using I,h2⟩
theorem bi.append:∀{xs ys:List V}{q w:LV},bi xs q->bi ys w->bi (xs++ys) (q++w)
 |_,_,_,_,.nil,s=>s
 |_,_,_,_,.cons r t,s=>.cons r (bi.append t s)
theorem bi.take:∀{xs:List V}{q:LV}(n:Nat),bi xs q->bi (xs.take n) (q.take n)
 |_,_,0,_=>.nil
 |_,_,_+1,.nil=>.nil
 |_,_,n+1,.cons r t=>.cons r (bi.take n t)
theorem bi.drop:∀{xs:List V}{q:LV}(n:Nat),bi xs q->bi (xs.drop n) (q.drop n)
 |_,_,0,r=>r
 |_,_,_+1,.nil=>.nil
 |_,_,n+1,.cons _ t=>bi.drop n t
def iB:Option V->OV->Prop
 |some v,some u=>RelV v u
 |none,none=>True
 |_,_=>False
def KV:List (κ×V)->List (κ×Value)->Prop:=Paired λ(p:κ×V)(q:κ×Value)=>p.1=q.1/\RelV p.2 q.2
noncomputable def kV:dX->V
 | .inl i=>.int i
 | .inr x=>.str x
def ou(h:Heap)(a:Addr)(i:Array Value):Prop:=∃o,h.get? a=some o/\(o.cls=.type "tuple"/\∃n,o.data=.seq i n)/\o.dict=none
variable{h:Heap}{a:Addr}
theorem ou.tup(x:ou h a i):IsTup h a i:=by obtain⟨o,e,c,_⟩:=x;exact⟨o,e,c⟩
theorem ou.lt(x:ou h a i):a < h.objs.size:=x.tup.lt
theorem ou.new(h:Heap)(i:Array Value):ou (h.push { cls:=.type "tuple",data:=.seq i }) h.objs.size i:=⟨_,eF _ rfl,⟨rfl,_,rfl⟩,rfl⟩
inductive HO where
 |lst (xs:List V)
 |tup (xs:List V)
 |dK (kvs:List (dX×V))|dT (kvs:List (List dX×V))
 |set (S:Int->Bool) (n:Nat)
 |ins (C dx:Addr) (fs:List (Str×V))
 |own (x:Addr)
 |xd (fs:List (Str×V))
 |met (f x:Addr)
 |rng (lo hi:Int)
 |frz (o:Obj) (u:HO)
 |tbl (ps:Array Value)
 |ext (φ:Heap->Prop)
noncomputable abbrev Hp:=Addr->Option HO
noncomputable def upd(H:Hp)(a:Addr)(o:HO):Hp:=λb=>if b=a then some o else H b
variable{H:Hp}
theorem aX:upd H a o a=some o:=by unfold upd;rw[ai rfl]
variable{b:Addr}
theorem aM(h:b≠a):upd H a o b=H b:=by unfold upd;rw[ar h]
theorem DC{H:Hp}{a:Addr}{o u:HO}:upd (upd H a o) a u=upd H a u:=by funext b;unfold upd;split<;>rfl
theorem fM(h:H a=some o)(h':H b=none):a≠b:=by intro e;subst e;rw[h]at h';cases h'
section
variable(P:Program)(w:World)
def cj(H:Hp)(h:Heap)(a:Addr):HO->Prop
 | .lst xs=>xs.length≤sizeLine/\∃(i:LV)(n:Nat),bi xs i/\h.get? a=some { cls:=.type "list",data:=.seq i.toArray n }
 | .tup xs=>xs.length≤sizeLine/\∃i:LV,bi xs i/\ou h a i.toArray
 | .dK k=>k.length≤sizeLine/\(a == sysModules)=false/\∃s,KV k s/\h.DictOf (bJ P w) a s
 | .dT k=>k.length≤sizeLine/\(a == sysModules)=false/\∃xs:List (List dX×Addr×Value),
   Paired (λ(p:List dX×V)(q:List dX×Addr×Value)=>p.1=q.1/\H q.2.1=some (.tup (p.1.map kV))/\RelV p.2 q.2.2) k xs /\
   ∃o es b,h.get? a=some o/\o.ExactDict/\o.data=.dict es b/\es.toList=xs.map (entryOfKey (tupleKind (bJ P w)))/\(xs.map (·.1)).Nodup
 | .set S n=>h.SetOf (intKind P w) a S n
 | .ins C dx fs=>H dx=some (.own a)/\fs.length≤1000/\dx≠a/\h.get? a=some (iW C dx) /\
   ∃mA,h.Ns1 dx mA/\(∀f,iB (fs.lookup f) (mA f))/\q7 mA (fs.map (·.1))
 | .own _=>∃o,h.get? a=some o
 | .xd fs=>∃mA,h.Ns1 a mA/\∀f,iB (fs.lookup f) (mA f)
 | .rng lo hi=>∃t u v,h.get? a=some { cls:=.type "range",data:=.fields #[.int lo t,.int hi u,.int 1 v] }
 | .frz o u=>h.get? a=some o/\cj H h a u
 | .tbl ps=>h.get? a=some { cls:=.none,data:=.fields ps }
 | .met f x=>h.get? a=some (uF (.ref f) (.ref x))
 | .ext e=>e h/\(∃o,h.get? a=some o)/\∀I h2:Heap,e I->(∀o,I.get? a=some o->h2.get? a=some o)->e h2
def iP(H:Hp)(h:Heap):Prop:=∀a o,H a=some o->cj P w H h a o
end
section
variable{P:Program}{w:World}{H H':Hp}{h h':Heap}{a:Addr}{o:HO}
theorem cj.lt(x:cj P w H h a o):a < h.objs.size:=by
 cases o with
 |lst xs=>obtain⟨_,_,_,_,e⟩:=x;exact bg e
 |tup xs=>obtain⟨_,_,_,p⟩:=x;exact p.lt
 |dK k=>obtain⟨_,_,_,_,o,_,_,e,_⟩:=x;exact bg e
 |dT k=>obtain⟨_,_,_,_,o,_,_,e,_⟩:=x;exact bg e
 |set S n=>obtain⟨o,_,_,_,e,_⟩:=x;exact bg e
 |ins C dx fs=>obtain⟨_,_,_,e,_⟩:=x;exact bg e
 |own y=>obtain⟨_,e⟩:=x;exact bg e
 |xd fs=>obtain⟨_,⟨_,_,_,e,_⟩,_⟩:=x;exact bg e
 |rng lo hi=>obtain⟨_,_,_,e⟩:=x;exact bg e
 |frz b u=>obtain⟨e,_⟩:=x;exact bg e
 |tbl ps=>exact bg (show h.get? a=some _ from x)
 |met f y=>exact bg (show h.get? a=some _ from x)
 |ext s=>obtain⟨_,⟨_,e⟩,_⟩:=x;exact bg e
theorem Paired.mapP:∀{l:List α}{h:List z},Paired F l h->(∀a b,F a b->i a b)->Paired i l h
 |_,_,.nil,_=>.nil
 |_,_,.cons r t,f=>.cons (f _ _ r) (Paired.mapP t f)
theorem cj.stay(x:cj P w H h a o)(k:∀b u,(b=a\/H b=some (.own a))->h.get? b=some u->h'.get? b=some u)
  (F:∀b,H b=some (.own a)->H' b=some (.own a)) (K:∀b xs,H b=some (.tup xs)->H' b=some (.tup xs)):cj P w H' h' a o:=by
 induction o with
 |lst xs=>obtain⟨z,i,n,r,e⟩:=x;exact⟨z,i,n,r,k _ _ (.inl rfl) e⟩
 |tup xs=>obtain⟨z,i,r,s,e,c⟩:=x;exact⟨z,i,r,s,k _ _ (.inl rfl) e,c⟩
 |dK g=>obtain⟨z,y,D,r,s,es,m,e,c⟩:=x;exact⟨z,y,D,r,s,es,m,k _ _ (.inl rfl) e,c⟩
 |dT g=>obtain⟨z,y,xs,r,s,es,m,e,c⟩:=x;exact⟨z,y,xs,Paired.mapP r λp q z=>⟨z.1,K _ _ z.2.1,z.2.2⟩,s,es,m,k _ _ (.inl rfl) e,c⟩
 |set S n=>obtain⟨s,es,m,t,e,c⟩:=x;exact⟨s,es,m,t,k _ _ (.inl rfl) e,c⟩
 |ins C dx fs=>obtain⟨d,z,B,e,mA,⟨j,es,m,l,c⟩,r⟩:=x;exact⟨F _ d,z,B,k _ _ (.inl rfl) e,mA,⟨j,es,m,k _ _ (.inr d) l,c⟩,r⟩
 |own y=>obtain⟨s,e⟩:=x;exact⟨s,k _ _ (.inl rfl) e⟩
 |xd fs=>obtain⟨mA,⟨j,es,m,e,c⟩,r⟩:=x;exact⟨mA,⟨j,es,m,k _ _ (.inl rfl) e,c⟩,r⟩
 |rng lo hi=>obtain⟨t,u,v,e⟩:=x;exact⟨t,u,v,k _ _ (.inl rfl) e⟩
 |frz s u A=>obtain⟨e,q⟩:=x;exact⟨k _ _ (.inl rfl) e,A q⟩
 |tbl ps=>have e:h.get? a=some { cls:=.none,data:=.fields ps }:=x;show h'.get? a=some { cls:=.none,data:=.fields ps };exact k a _ (.inl rfl) e
 |met f y=>have e:h.get? a=some (uF (.ref f) (.ref y)):=x;show h'.get? a=some (uF (.ref f) (.ref y));exact k a _ (.inl rfl) e
 |ext E=>obtain⟨p,⟨o,e⟩,st⟩:=x;exact⟨st _ _ p λo q=>k _ _ (.inl rfl) q,⟨o,k _ _ (.inl rfl) e⟩,st⟩
theorem iP.lt(x:iP P w H h)(e:H a=some o):a < h.objs.size:=(x a o e).lt
theorem iP.fresh(x:iP P w H h)(e:h.objs.size≤a):H a=none:=by
 cases q:H a with
 |none=>rfl
 |some u=>exact absurd (bG (x.lt q) e) (gw _)
theorem iP.kept(x:iP P w H h)(k:∀b u,h.get? b=some u->h'.get? b=some u):iP P w H h':=λa o e=>
 (x a o e).stay (λb u _ q=>k b u q) (λ_ q=>q) λ_ _ q=>q
theorem iP.laid(x:iP P w H h)(k:∀b u,h.get? b=some u->h'.get? b=some u)(p:h.objs.size≤a)(n:cj P w (upd H a o) h' a o):iP P w (upd H a o) h':=λb u e=>by
 have f:=x.fresh p;by_cases s:b=a
 .subst s;rw[aX]at e;cases e;exact n
 .rw [aM s]at e;exact(x b u e).stay (λc v _ q=>k c v q) (λc q=>by rw[aM (fM q f)];exact q) λc xs q=>by rw[aM (fM q f)];exact q
end
def Rd(H:Hp)(a:Addr)(u:HO):Prop:=H a=some u\/∃o,H a=some (.frz o u)
theorem Rd.ok{P:Program}{w:World}{H:Hp}{h:Heap}{a:Addr}{u:HO}(r:Rd H a u)(x:iP P w H h):cj P w H h a u:=by
 rcases r with r|⟨o,r⟩
 .exact x a u r
 .obtain⟨_,q⟩:=x a _ r;exact q
def Lu:Option HO->Prop
 |some (.lst _)=>True
 |some (.dK _)=>True
 |some (.dT _)=>True
 |some (.set _ _)=>True
 |some (.ins _ _ _)=>True
 |some (.ext _)=>True
 |_=>False
section
variable{P:Program}{w:World}{H:Hp}{h h':Heap}{x e:Addr}{o':HO}
theorem iP.write(ok:iP P w H h)(m:Lu (H x))(d:e=x\/H e=some (.own x))(k:∀b u,b≠e->h.get? b=some u->h'.get? b=some u)(o:∃u,h'.get? e=some u)
  (p:cj P w (upd H x o') h' x o'):iP P w (upd H x o') h':=λb u q=>by
 have n:∀c y,H c=some (.own y)->c≠x:=λc y r z=>by subst z;rw[r]at m;exact m
 have t:∀c xs,H c=some (.tup xs)->c≠x:=λc xs r z=>by subst z;rw[r]at m;exact m
 by_cases s:b=x
 .subst s;rw[aX]at q;cases q;exact p
 .rw [aM s]at q;by_cases a:b=e
  .have g:H b=some (.own x):=by
    rcases d with z|z
    .exact absurd (a.trans z) s
    .rw [a];exact z
   rw[q]at g;cases g;obtain⟨v,i⟩:=o;exact⟨v,by rw[a];exact i⟩
  .refine (ok b u q).stay (λc v f r=>k c v ?_ r) (λc r=>by rw[aM (n c b r)];exact r) λc xs r=>by rw[aM (t c xs r)];exact r
   rcases f with rfl|f
   .exact a
   .rintro rfl;rcases d with z|z
    .exact n c b f z
    .rw [f]at z;cases z;exact s rfl
end
structure Un(fs ex:List Addr)(H H':Hp)(h h':Heap):Prop where
 keep:∀b o,h.get? b=some o->H b=none->b ∉ fs->b ∉ ex->h'.get? b=some o
 slot:∀b o,h.get? b=some o->H b=none->b ∈ fs->b ∉ ex->∃sl,h'.get? b=some { o with slots:=sl }
 free:∀b o,h.get? b=some o->H b=none->b ∉ ex->H' b=none
 there:∀b o,h.get? b=some o->b ∉ ex->∃o',h'.get? b=some o'
 tups:∀b xs,H b=some (.tup xs)->H' b=some (.tup xs)
 frzs:∀b o u,H b=some (.frz o u)->H' b=some (.frz o u)
 tbls:∀b ps,H b=some (.tbl ps)->∃more,H' b=some (.tbl (ps++more))
section
variable{fs fs' ex ex':List Addr}{H j H2:Hp}{h I h2 h':Heap}{a x e:Addr}{o:HO}
theorem Un.any(u:Un fs ex H j h I)(q:h.get? b=some i)(n:H b=none)(a:b ∉ ex):∃s,I.get? b=some { i with slots:=s }:=by
 by_cases x:b ∈ fs
 .exact u.slot b i q n x a
 .exact⟨i.slots,u.keep b i q n x a⟩
theorem Un.kept(k:∀b u,h.get? b=some u->h'.get? b=some u):Un fs ex H H h h':=
 ⟨λb o q _ _ _=>k b o q,λb o q _ _ _=>⟨o.slots,k b o q⟩,λ_ _ _ n _=>n,λb o q _=>⟨o,k b o q⟩,λ_ _ q=>q,λ_ _ _ q=>q,λ_ ps q=>⟨#[],by rw[q];simp⟩⟩
theorem Un.refl:Un fs ex H H h h:=Un.kept λ_ _ q=>q
theorem Un.laid(k:∀b u,h.get? b=some u->h'.get? b=some u)(p:h.objs.size≤a)(x:H a=none):Un fs ex H (upd H a o) h h' where
 keep:=λb u q _ _ _=>k b u q
 slot:=λb u q _ _ _=>⟨u.slots,k b u q⟩
 free:=λb u q n _=>by rw[aM (bO (bG (bg q) p))];exact n
 there:=λb u q _=>⟨u,k b u q⟩
 tups:=λb xs q=>by rw[aM (fM q x)];exact q
 frzs:=λb u xs q=>by rw[aM (fM q x)];exact q
 tbls:=λb ps q=>⟨#[],by rw[aM (fM q x),q];simp⟩
theorem Un.write(m:Lu (H x))(p:e=x\/H e=some (.own x))(k:∀b u,b≠e->h.get? b=some u->h'.get? b=some u)(s:∃u,h'.get? e=some u):Un fs ex H (upd H x o) h h':=by
 have t:∀b,H b=none->b≠x:=λb n z=>by subst z;rw[n]at m;exact m
 have c:∀b,H b=none->b≠e:=λb n z=>by
  subst z;rcases p with r|r
  .exact t b n r
  .rw [n]at r;cases r
 have f:∀b u,H b=some u->¬Lu (some u)->b≠x:=λb u q nm z=>by subst z;rw[q]at m;exact nm m
 refine⟨fun b u q n _ _=>k b u (c b n) q,fun b u q n _ _=>⟨u.slots,k b u (c b n) q⟩,fun b u q n _=>by rw [aM (t b n)];exact n,fun b u q _=>?_,
  λb xs q=>by rw[aM (f b _ q λz=>z)];exact q,λb u xs q=>by rw[aM (f b _ q λz=>z)];exact q,λb ps q=>⟨#[],by rw[aM (f b _ q λz=>z),q];simp⟩⟩
 by_cases a:b=e
 .subst a;exact s
 .exact⟨u,k b u a q⟩
end
noncomputable def trk(h:Heap)(H:Hp):List Addr:=(List.range h.objs.size).filter λa=>(H a).isSome
def r_(h:Heap)(H:Hp):Heap:=ni h (trk h H)
theorem zd(h:Heap)(H:Hp):(r_ h H).objs.size=h.objs.size:=PySem.W.hideAll_size _ _
variable{o:Obj}
theorem BN(e:h.get? b=some o)(n:H b=none):(r_ h H).get? b=some o:=
 zX _ e λm=>by have q:(H b).isSome=true:=(mB.mp m).2;rw[n]at q;simp at q
theorem El(e:(r_ h H).get? b=some o):h.get? b=some o/\H b=none:=by
 have a:h.get? b=some o:=zT (trk h H) e;refine⟨a,?_⟩;cases q:H b with
 |none=>rfl
 |some x=>have m:b ∈ trk h H:=mB.mpr ⟨wH.mpr (bg a),by simp[q]⟩;have z:(r_ h H).get? b=none:=zY (trk h H) m;rw[z]at e;cases e
noncomputable def kN(g h:Heap)(L:Addr):PN:=(List.range h.objs.size).filterMap λa=>if a=L\/(g.get? a).isSome=true then none else (h.get? a).map λo=>(a,o)
variable{g:Heap}{L:Addr}
theorem tS(I:a≠L)(h2:g.get? a=none)(x:h.get? a=some o):(a,o) ∈ kN g h L:=
 js.mpr ⟨a,wH.mpr (bg x),by simp[I,h2,x]⟩
set_option tactic.hygienic true in
theorem nS(x:p ∈ kN g h L):p.1≠L/\g.get? p.1=none/\h.get? p.1=some p.2:=by
 obtain⟨b,_,e⟩:=js.mp x;split at e
 .cases e
 .rename_i n;cases q:h.get? b with
  |none=>rw[q]at e;simp at e
  |some u=>
   rw[q]at e;simp only[kc,Dp]at e;subst e;refine⟨λz=>n (.inl z),?_,q⟩;show g.get? b=none;cases r:g.get? b with
   |none=>rfl
   |some v=>exact(n (.inr (by simp[r]))).elim
def cu(g h:Heap)(L d:Addr):PN:=(kN g h L).filter λp=>decide (p.1≠d)
theorem Bh:News g L h (kN g h L):=λp x=>let ⟨a,b,c⟩:=nS x;⟨c,a,b⟩
structure Mod(K:FG)(mg:SV)(base:Heap):Prop where
 kin:K.In base
 glob:base.Ns mainGlobals mg
 blt:∃mb,base.Ns builtinsNs mb/\∀x:Str,x≠"__name__"->mb x=bootBuiltins x
 nolimit:base.NoLimit
structure Cx where
 p:Program
 w:World
 K:FG
 g:SV
 b:Heap
 A:Around
 N:LS
 z:Shared
 y:Hp
 e:Env
 o:List Env
 k:List Env
 ex:List Addr
 fn:Str->Bool
 c:Bool
 pn:PN
 xe:VP
noncomputable def iV(l:List Env):List Addr:=l.filterMap (·.frame)
abbrev Cx.fs(X:Cx):List Addr:=iV X.o
def CA(sc:Scope)(x:Str):Prop:=sc.names.lookup x=some .local\/sc.names.lookup x=some .cell\/sc.names.lookup x=some .free
def Loc(sc:Scope)(x:Str):Prop:=sc.names.lookup x=some .local\/sc.names.lookup x=some .cell
def Look(e:Env)(h:Heap)(m:SV)(x:Str)(u:Value):Prop:=
 (e.kindOf x=some .local/\m x=some u)\/((e.kindOf x=some .cell\/e.kindOf x=some .free)/\∃c,e.cells.lookup x=some c/\h.IsCell c (some u))
structure Cx.Ok(X:Cx):Prop where
 mod:Mod X.K X.g X.b
 kind:X.e.scope.kind=.function
 glob:X.e.globals=mainGlobals
 blt:X.e.builtins=builtinsNs
 above:X.z.heap.objs.size≤X.e.locals
 inj:∀x y c,X.e.cells.lookup x=some c->X.e.cells.lookup y=some c->x=y
 has:∀x,(X.e.kindOf x=some .cell\/X.e.kindOf x=some .free)->∃c,X.e.cells.lookup x=some c
 cab:∀x c,X.fn x=true->X.e.cells.lookup x=some c->X.z.heap.objs.size≤c
 hd:X.c=true->X.A.handled=none
 frames:X.A.frames=some X.k
 stk:X.k=X.o\/(X.k=X.e::X.o/\X.e.frame=some X.e.locals)
 exf:∀b ∈ X.ex,b≠X.e.locals/\∀x c,X.e.cells.lookup x=some c->c≠b
 bs:∀b o,X.b.get? b=some o->X.z.heap.get? b=some o/\X.y b=none
 bsz:X.b.objs.size≤X.z.heap.objs.size
 noex:∀b o,X.b.get? b=some o->b ∉ X.ex
 exfs:∀b ∈ X.ex,b ∉ X.fs
 funs:X.z.heap.FunFrames X.b X.o
 frf:∀b ∈ X.fs,X.y b=none
structure Inv(X:Cx)(pins:PN)(J:List (Option V))(H:Hp)(s:Shared):Prop where
 o:X.Ok
 os:s.os=X.z.os
 bare:AllBare s.gens
 base:Un X.fs X.ex X.y H X.z.heap s.heap
 loc:∃m,s.heap.Ns X.e.locals m/\∀(i:Nat)(x:Str)(v:V),X.N[i]? = some x->J[i]? = some (some v)->CA X.e.scope x->∃u,RelV v u/\Look X.e s.heap m x u
 cell:∀x c,X.e.cells.lookup x=some c->∃v,s.heap.IsCell c v
 free:H X.e.locals=none
 freeC:∀x c,X.e.cells.lookup x=some c->H c=none
 pin:∀p ∈ X.pn++pins,s.heap.get? p.1=some p.2/\H p.1=none/\p.1≠X.e.locals/\p.1 ∉ X.fs/\∀v,p.2.data≠.cell v
 h:iP X.p X.w H s.heap
 len:J.length=X.N.length
section
variable{X:Cx}{B:PN}{J:List (Option V)}{H H':Hp}{s:Shared}{h':Heap}
theorem Cx.Ok.nofr(ok:X.Ok)(e:X.b.get? b=some o):b ∉ X.fs:=λh=>by have:=(ok.funs.mem h).1;rw[e]at this;cases this
theorem Inv.bs(I:Inv X B J H s):∀b o,X.b.get? b=some o->s.heap.get? b=some o/\H b=none:=λb o e=>
 ⟨I.base.keep b o (I.o.bs b o e).1 (I.o.bs b o e).2 (I.o.nofr e) (I.o.noex b o e),I.base.free b o (I.o.bs b o e).1 (I.o.bs b o e).2 (I.o.noex b o e)⟩
theorem Inv.bk(I:Inv X B J H s):∀b o,X.b.get? b=some o->s.heap.get? b=some o:=λb o e=>(I.bs b o e).1
theorem Inv.mod(I:Inv X B J H s):Mod X.K X.g X.b:=I.o.mod
theorem Inv.kIn(I:Inv X B J H s):X.K.In s.heap:=I.o.mod.kin.keeps I.bk
theorem Inv.lt(I:Inv X B J H s):X.e.locals < s.heap.objs.size:=let ⟨_,h,_⟩:=I.loc;h.lt
theorem Inv.sz(I:Inv X B J H s):X.z.heap.objs.size≤s.heap.objs.size:=bN I.o.above (qQ I.lt)
theorem Inv.nofs(I:Inv X B J H s)(h:s.heap.objs.size≤a):a ∉ X.fs:=λb=>by obtain⟨_,o,x,_⟩:=I.o.funs.mem b;exact absurd (bG (bg x) (bN I.sz h)) (gw _)
theorem Inv.cne(I:Inv X B J H s):∀x c,X.e.cells.lookup x=some c->c≠X.e.locals:=λx c e z=>by obtain⟨v,o,n,d⟩:=I.cell x c e;obtain⟨m,⟨o',es,p,a,h,_⟩,_⟩:=I.loc;rw[z,a]at n;cases n;rw[h]at d;cases d
theorem Inv.funs(I:Inv X B J H s):s.heap.FunFrames X.b X.o:=by
 have all:∀(l:List Env),(∀b ∈ iV l,b ∈ X.fs)->X.z.heap.FunFrames X.b l->s.heap.FunFrames X.b l:=by
  intro l;induction l with
  |nil=>intro _ _;trivial
  |cons n r i=>
   intro a c;obtain⟨k,⟨L,o,f,m,t,d⟩,p⟩:=c;have h:L ∈ X.fs:=a L (by unfold iV;rw[mI,f];exact aZ);obtain⟨q,e⟩:=I.base.slot L o t (I.o.frf L h) h λz=>I.o.exfs L z h
   exact⟨k,⟨L,_,f,m,e,d⟩,i (λb x=>a b (by unfold iV;rw[mI,f];exact a_ _ x)) p⟩
 exact all X.o (λ_ x=>x) I.o.funs
theorem Inv.stack(I:Inv X B J H s):s.heap.FunFrames X.b X.k:=by
 rcases I.o.stk with e|⟨e,h⟩
 .rw [e];exact I.funs
 .rw [e];obtain⟨m,n,_⟩:=I.loc;refine .cons (by rw[I.o.kind];decide) h n ?_ I.funs;exact uK (bN I.o.bsz I.o.above)
theorem Inv.stkSub(I:Inv X B J H s):∀b ∈ iV X.k,b ∈ X.e.locals::X.fs:=λb h=>by
 rcases I.o.stk with e|⟨e,f⟩
 .rw [e]at h;exact a_ _ h
 .rw [e]at h;unfold iV at h;rw[mI,f]at h;exact h
theorem Inv.stkFree(I:Inv X B J H s):∀b ∈ iV X.k,H b=none:=λb h=>by
 rcases av.mp (I.stkSub b h) with e|h
 .rw [e];exact I.free
 .obtain⟨_,o,x,_⟩:=I.o.funs.mem h;exact I.base.free b o x (I.o.frf b h) λz=>I.o.exfs b z h
theorem Inv.step{g':Array GenState}{t':Nat}{d':Drawn}{ch:List Addr}(I:Inv X B J H s)
  (a:∀b ∈ ch,(b ∈ X.ex\/X.z.heap.objs.size≤b)/\b≠X.e.locals/\(∀x c,X.e.cells.lookup x=some c->c≠b)/\∀p ∈ X.pn++B,p.1≠b)
  (t:∀b o,b≠X.e.locals->b ∉ X.fs->b ∉ ch->s.heap.get? b=some o->H b=none->h'.get? b=some o)
  (slot:∀b o,b≠X.e.locals->b ∈ X.fs->b ∉ ch->s.heap.get? b=some o->H b=none->∃N,h'.get? b=some { o with slots:=N }) (f:∀b o,b ∉ ch->s.heap.get? b=some o->H b=none->H' b=none)
  (y:∀b o,b ∉ ch->s.heap.get? b=some o->∃o',h'.get? b=some o')
  (E:∀b xs,H b=some (.tup xs)->H' b=some (.tup xs)) (P:∀b o u,H b=some (.frz o u)->H' b=some (.frz o u)) (D:∀b ps,H b=some (.tbl ps)->∃A,H' b=some (.tbl (ps++A)))
  (ns:∀m,s.heap.Ns X.e.locals m->h'.Ns X.e.locals m) (M:iP X.p X.w H' h') (hg:AllBare g') :
  Inv X B J H' { s with heap:=h',gens:=g',drawn:=d',toks:=t' }:=by
 have L:∀b o,X.z.heap.get? b=some o->b≠X.e.locals:=λb o e=>bO (bG (bg e) I.o.above);have C:∀b o,X.z.heap.get? b=some o->b ∉ X.ex->b ∉ ch:=λb o e h j=>by
  rcases(a b j).1 with z|z
  .exact h z
  .exact absurd (bG (bg e) z) (gw _)
 have K:∀x c,X.e.cells.lookup x=some c->∀v,s.heap.IsCell c v->h'.IsCell c v:=λx c e v hz=>by
  obtain⟨o,S,G⟩:=hz;have w:c ∉ ch:=λz=>(a c z).2.2.1 x c e rfl;by_cases R:c ∈ X.fs
  .obtain⟨N,q⟩:=slot c o (I.cne x c e) R w S (I.freeC x c e);exact⟨_,q,G⟩
  .exact⟨o,t c o (I.cne x c e) R w S (I.freeC x c e),G⟩
 refine⟨I.o,I.os,hg,⟨λb o e n j h=>?_,λb o e n j h=>?_,λb o e n h=>?_,λb o e h=>?_,λb xs e=>E b xs (I.base.tups b xs e),λb o xs e=>P b o xs (I.base.frzs b o xs e),λb ps e=>?_⟩,?_,λx c e=>?_,?_,λx c e=>?_,λp T=>?_,M,I.len⟩
 .exact t b o (L b o e) j (C b o e h) (I.base.keep b o e n j h) (I.base.free b o e n h)
 .obtain⟨N,g⟩:=I.base.slot b o e n j h;obtain⟨Q,F⟩:=slot b _ (L b o e) j (C b o e h) g (I.base.free b o e n h);exact⟨Q,F⟩
 .obtain⟨o',g⟩:=I.base.there b o e h;exact f b o' (C b o e h) g (I.base.free b o e n h)
 .obtain⟨o',g⟩:=I.base.there b o e h;exact y b o' (C b o e h) g
 .obtain⟨m1,g⟩:=I.base.tbls b ps e;obtain⟨m2,F⟩:=D b _ g;exact⟨m1++m2,by rw[F,ww]⟩
 .obtain⟨m,hn,hl⟩:=I.loc;refine⟨m,ns m hn,λi x v g F Z=>?_⟩;obtain⟨u,r,l⟩:=hl i x v g F Z;refine⟨u,r,?_⟩;rcases l with l|⟨k,c,e,z⟩
  .exact .inl l
  .exact .inr ⟨k,c,e,K x c e _ z⟩
 .obtain⟨v,z⟩:=I.cell x c e;exact⟨v,K x c e v z⟩
 .obtain⟨m,⟨o,_,_,S,_⟩,_⟩:=I.loc;exact f _ o (λz=>(a _ z).2.1 rfl) S I.free
 .obtain⟨v,o,S,G⟩:=I.cell x c e;exact f c o (λz=>(a c z).2.2.1 x c e rfl) S (I.freeC x c e)
 .obtain⟨e,n,V,W,d⟩:=I.pin p T;have w:p.1 ∉ ch:=λz=>(a p.1 z).2.2.2 p T rfl;exact⟨t p.1 p.2 V W w e n,f p.1 p.2 w e n,V,W,d⟩
theorem Inv.un{t':Nat}(I:Inv X B J H s)(u:Un X.fs [] H H' s.heap h')(k:iP X.p X.w H' h'):Inv X B J H' { s with heap:=h',toks:=t' }:=by
 obtain⟨m,⟨o,es,q,f,r⟩,_⟩:=id I.loc;obtain⟨l,L⟩:=u.any f I.free (by simp);exact I.step (g':=s.gens) (d':=s.drawn) (ch:=[]) (λ_ z=>nomatch z) (λb o _ a _ e n=>u.keep b o e n a (by simp)) (λb o _ a _ e n=>u.slot b o e n a (by simp)) (λb o _ e n=>u.free b o e n (by simp)) (λb o _ e=>u.there b o e (by simp)) u.tups u.frzs u.tbls (λv c=>by obtain⟨o',x,p,h,t⟩:=c;rw[f]at h;cases h;exact⟨_,x,p,L,t⟩) k I.bare
theorem Inv.call{g':Array GenState}{t':Nat}{d':Drawn}{ch:List Addr}(I:Inv X B J H s)(u:Un (iV X.k) ch H H' s.heap h')(q:iP X.p X.w H' h')(g:AllBare g')
  (a:∀b ∈ ch,(b ∈ X.ex\/X.z.heap.objs.size≤b)/\b≠X.e.locals/\(∀x c,X.e.cells.lookup x=some c->c≠b)/\∀p ∈ X.pn++B,p.1≠b) :
  Inv X B J H' { s with heap:=h',gens:=g',drawn:=d',toks:=t' }:=by
 obtain⟨m,⟨o,es,j,v,r⟩,_⟩:=id I.loc;obtain⟨y,L⟩:=u.any v I.free λz=>(a _ z).2.1 rfl;exact I.step (ch:=ch) a (λb o L d h e n=>u.keep b o e n (λz=>(av.mp (I.stkSub b z)).elim L d) h) (λb o _ _ h e n=>u.any e n h) (λb o h e n=>u.free b o e n h) (λb o h e=>u.there b o e h) u.tups u.frzs u.tbls (λl w=>by obtain⟨o',t,f,k,i⟩:=w;rw[v]at k;cases k;exact⟨_,t,f,L,i⟩) q g
theorem Inv.turned{t':Nat}{i:Addr}(h:Inv X B J H s)(k:∀b o,b≠i->s.heap.get? b=some o->h'.get? b=some o)(j:H i=none)(L:i≠X.e.locals)
  (I:i ∈ X.ex\/X.z.heap.objs.size≤i) (h2:∀x c,X.e.cells.lookup x=some c->c≠i) (d:∀p ∈ X.pn++B,p.1≠i):Inv X B J H { s with heap:=h',toks:=t' }:=by
 have t:∀b u,H b=some u->b≠i:=λb u e z=>by rw[z,j]at e;cases e
 refine h.step (g':=s.gens) (d':=s.drawn) (ch:=[i]) (λb w=>?_) (λb o _ _ a e _=>k b o (λz=>a (by simp[z])) e) (λb o _ _ a e _=>⟨o.slots,k b o (λz=>a (by simp[z])) e⟩) (λ_ _ _ _ n=>n)
  (λb o a e=>⟨o,k b o (λz=>a (by simp[z])) e⟩) (λ_ _ e=>e) (λ_ _ _ e=>e) (λb ps e=>⟨#[],by rw[e];simp⟩) (λm g=>?_) (λb u e=>?_) h.bare
 .have e:b=i:=by simpa using w
  subst e;exact⟨I,L,h2,d⟩
 .obtain⟨o,es,f,l,r⟩:=g;exact⟨o,es,f,k _ o (bZ L) l,r⟩
 .refine (h.h b u e).stay (λc v a q=>k c v ?_ q) (λ_ q=>q) λ_ _ q=>q;rcases a with z|z
  .rw [z];exact t b u e
  .exact t c _ z
theorem Inv.tok(I:Inv X B J H s)(t:Nat):Inv X B J H { s with toks:=t }:=I.un (h':=s.heap) (t':=t) Un.refl I.h
theorem Inv.kept{t':Nat}(I:Inv X B J H s)(k:∀b u,s.heap.get? b=some u->h'.get? b=some u):Inv X B J H { s with heap:=h',toks:=t' }:=I.un (Un.kept k) (I.h.kept k)
theorem Inv.laid{a:Addr}{o:HO}{t':Nat}(I:Inv X B J H s)(k:∀b u,s.heap.get? b=some u->h'.get? b=some u)(h:s.heap.objs.size≤a)(n:cj X.p X.w (upd H a o) h' a o) :
  Inv X B J (upd H a o) { s with heap:=h',toks:=t' }:=I.un (Un.laid k h (I.h.fresh h)) (I.h.laid k h n)
theorem Inv.write{x e:Addr}{o:HO}{t:Nat}(I:Inv X B J H s)(m:Lu (H x))(a:e=x\/H e=some (.own x))(k:∀b u,b≠e->s.heap.get? b=some u->h'.get? b=some u)(h:∃u,h'.get? e=some u)
  (n:cj X.p X.w (upd H x o) h' x o):Inv X B J (upd H x o) { s with heap:=h',toks:=t }:=I.un (Un.write m a k h) (I.h.write m a k h n)
theorem Inv.pins_of(I:Inv X B J H s)(h:∀p ∈ i,s.heap.get? p.1=some p.2/\H p.1=none/\p.1≠X.e.locals/\p.1 ∉ X.fs/\∀v,p.2.data≠.cell v):Inv X i J H s:=
 ⟨I.o,I.os,I.bare,I.base,I.loc,I.cell,I.free,I.freeC,λp x=>(jq.mp x).elim (λz=>I.pin p (gm _ z)) (h p),I.h,I.len⟩
theorem nU{N:LS}(s:N.Nodup){i j:Nat}{x:Str}(a:N[i]? = some x)(b:N[j]? = some x):i=j:=by obtain⟨I,e⟩:=bt.mp a;obtain⟨h2,h⟩:=bt.mp b;exact(List.getElem_inj s).mp (e.trans h.symm)
theorem k'{M:Model}{A:Around}{E:VP}{i:Nat}{x:Str}{v:V}{u:Value}{Q:Unit->Shared->Prop}(I:Inv X B J H s)(hN:X.N.Nodup)(hi:X.N[i]? = some x)(l:Loc X.e.scope x)(r:RelV v u)
  (h:∀s',Inv X B (J.set i (some v)) H s'->(∃a,iX a s.heap s'.heap/\(a=X.e.locals\/X.e.cells.lookup x=some a))->Q () s') (hf:X.fn x=true\/X.e.scope.names.lookup x=some .local:=by first|exact .inl rfl|exact .inr rfl|assumption):wpAny M A (storeName X.e x u) Q E s:=by
 obtain⟨m,hn,hl⟩:=id I.loc;have R:(X.e.scope.kind == .class ||(X.e.scope.kind == .module && X.e.locals != X.e.globals))=false:=by rw[I.o.kind];rfl
 have T:i < J.length:=by rw[I.len];exact(bt.mp hi).1
 have P:=I.cne;have w:∀{a:Addr}{h':Heap},(∃o,s.heap.get? a=some o/\H a=none)->iX a s.heap h'->iP X.p X.w H h':=λ{a h'} ha f b ob e=>by
  obtain⟨_,_,S⟩:=ha;refine(I.h b ob e).stay (λc w' g q=>(f.2 c ?_).trans q) (λ_ q=>q) λ_ _ q=>q;rintro rfl;rcases g with rfl|g
  .rw [S]at e;cases e
  .rw [S]at g;cases g
 rcases l with K|K
 .refine wpAny_storeName_local K hn (λh' hn' f=>?_) R;obtain⟨oL,_,_,hoL,_⟩:=id hn;refine h _ ⟨I.o,I.os,I.bare,⟨λb o e n C l=>?_,λb o e n C l=>?_,I.base.free,λb o e l=>?_,I.base.tups,I.base.frzs,I.base.tbls⟩,⟨_,hn',λj y v' t F e3=>?_⟩,λy c e=>?_,I.free,I.freeC,λp hp=>?_,w ⟨oL,hoL,I.free⟩ f,by simpa using I.len⟩ ⟨_,f,.inl rfl⟩
  .exact (f.2 b (bO (bG (bg e) I.o.above))).trans (I.base.keep b o e n C l)
  .obtain⟨sl,t⟩:=I.base.slot b o e n C l;exact⟨sl,(f.2 b (bO (bG (bg e) I.o.above))).trans t⟩
  .obtain⟨o',t⟩:=I.base.there b o e l;exact⟨o',(f.2 b (bO (bG (bg e) I.o.above))).trans t⟩
  .by_cases G:j=i
   .subst G;rw[hi]at t;cases t;rw[dm T]at F;cases F;exact⟨u,r,.inl ⟨K,by simp⟩⟩
   .rw [cr (bZ G)]at F;obtain⟨u',r',q⟩:=hl j y v' t F e3;refine⟨u',r',?_⟩;rcases q with ⟨k,e⟩|⟨k,c,e,z⟩
    .refine .inl ⟨k,?_⟩;have:y≠x:=λe=>G (nU hN t (e ▸ hi));simp[this,e]
    .exact .inr ⟨k,c,e,z.sameBut f (P y c e)⟩
  .obtain⟨w',z⟩:=I.cell y c e;exact⟨w',z.sameBut f (P y c e)⟩
  .obtain⟨e,n,ne,nf,d⟩:=I.pin p hp;exact⟨(f.2 p.1 ne).trans e,n,ne,nf,d⟩
 .have D:X.fn x=true:=by
   rcases hf with z|z
   .exact z
   .rw [z]at K;cases K
  obtain⟨c,g⟩:=I.o.has x (.inl K);obtain⟨w',z⟩:=I.cell x c g;refine wpAny_storeName_cell I.o.kind K g z (λh' L f=>?_);obtain⟨oc,W,Z⟩:=id z;refine h { s with heap:=h' } ⟨I.o,I.os,I.bare,⟨λb o e n C l=>?_,λb o e n C l=>?_,I.base.free,λb o e l=>?_,I.base.tups,I.base.frzs,I.base.tbls⟩,⟨m,hn.sameBut f (bZ (P x c g)),λj y v' t F e3=>?_⟩,λy c' e=>?_,I.free,I.freeC,λp hp=>?_,w ⟨oc,W,I.freeC x c g⟩ f,by simpa using I.len⟩ ⟨c,f,.inr g⟩
  .exact (f.2 b (bO (bG (bg e) (I.o.cab x c D g)))).trans (I.base.keep b o e n C l)
  .obtain⟨sl,t⟩:=I.base.slot b o e n C l;exact⟨sl,(f.2 b (bO (bG (bg e) (I.o.cab x c D g)))).trans t⟩
  .obtain⟨o',t⟩:=I.base.there b o e l;exact⟨o',(f.2 b (bO (bG (bg e) (I.o.cab x c D g)))).trans t⟩
  .by_cases G:j=i
   .subst G;rw[hi]at t;cases t;rw[dm T]at F;cases F;exact⟨u,r,.inr ⟨.inl K,c,g,L⟩⟩
   .rw [cr (bZ G)]at F;obtain⟨u',r',q⟩:=hl j y v' t F e3;refine⟨u',r',?_⟩;rcases q with q|⟨k,c',e,z'⟩
    .exact .inl q
    .refine .inr ⟨k,c',e,z'.sameBut f ?_⟩;rintro rfl;exact G (nU hN t (I.o.inj _ _ _ e g ▸ hi))
  .by_cases N:c'=c
   .subst N;exact⟨_,L⟩
   .obtain⟨w2,z2⟩:=I.cell y c' e;exact⟨w2,z2.sameBut f N⟩
  .obtain⟨e,n,ne,nf,d⟩:=I.pin p hp;refine⟨(f.2 p.1 ?_).trans e,n,ne,nf,d⟩;intro q;rw[q,W]at e;have q':oc=p.2:=hU e;exact d w' (by rw[<- q'];exact Z)
theorem nJ(I:Inv X B J H s)(N:X.N.Nodup)(hi:X.N[i]? = some x)(e:Loc X.e.scope x)(r:RelV v u)
  (h:∀s',Inv X B (J.set i (some v)) H s'->Q () s') (f:X.fn x=true\/X.e.scope.names.lookup x=some .local:=by first|exact .inl rfl|exact .inr rfl|assumption):wpAny M A (storeName X.e x u) Q E s:=
 k' I N hi e r (λs' a _=>h s' a) f
theorem Inv.call'(I:Inv X B J H s)(n:s'.os=s.os)(u:Un (iV X.k) i H H' s.heap s'.heap)(o:iP X.p X.w H' s'.heap)(a:AllBare s'.gens)
  (h:∀b ∈ i,(b ∈ X.ex\/X.z.heap.objs.size≤b)/\b≠X.e.locals/\(∀x c,X.e.cells.lookup x=some c->c≠b)/\∀p ∈ X.pn++B,p.1≠b):Inv X B J H' s':=by
 obtain⟨h',g,d,t,o'⟩:=s';have e:o'=s.os:=n;subst e;exact I.call (g':=g) (t':=t) (d':=d) u o a h
end
noncomputable abbrev XK:=Value->Option Addr->Hp->Prop
noncomputable abbrev St:=List (Option V)
noncomputable abbrev VK:=V->Hp->Prop
noncomputable abbrev TE:=St->Hp->VK->Prop
noncomputable abbrev TT:=St->Hp->(Bool->Hp->Prop)->Prop
noncomputable abbrev TA:=St->Hp->(List V->Hp->Prop)->Prop
structure Ends where
 nx:St->Hp->Prop
 rt:VK
 bk:St->Hp->Prop:=λ_ _=>False
 ct:St->Hp->Prop:=λ_ _=>False
noncomputable abbrev TS:=Ends->St->Hp->Prop
def EP(X:Cx)(B:PN)(J:St)(Q:VK)(u:Value)(s':Shared):Prop:=∃v H',Inv X B J H' s'/\RelV v u/\Q v H'
def TP(X:Cx)(B:PN)(J:St)(Q:Bool->Hp->Prop)(b:Bool)(s':Shared):Prop:=∃H',Inv X B J H' s'/\Q b H'
def AP(X:Cx)(B:PN)(J:St)(Q:List V->Hp->Prop)(q:LV)(s':Shared):Prop:=∃v H',Inv X B J H' s'/\bi v q/\Q v H'
def SP(X:Cx)(B:PN)(D:Ends)(f:Flow)(s':Shared):Prop:=
 match f with
 | .next=>∃h H',Inv X B h H' s'/\D.nx h H'
 | .brk=>∃h H',Inv X B h H' s'/\D.bk h H'
 | .cont=>∃h H',Inv X B h H' s'/\D.ct h H'
 | .ret u=>∃v h H',Inv X B h H' s'/\RelV v u/\D.rt v H'
variable{α:Type}
noncomputable abbrev wx(X:Cx)(m:Sem α):=wpAny (model X.p X.w) X.A m
def PE(X:Cx)(e:Expr)(t:TE):Prop:=
 ∀(B:PN)(s:Shared)(J:St)(H:Hp)(Q:VK),Inv X B J H s->t J H Q->wx X (eval e X.e) (EP X B J Q) X.xe s
def PT(X:Cx)(e:Expr)(t:TT):Prop:=
 ∀(B:PN)(s:Shared)(J:St)(H:Hp)(Q:Bool->Hp->Prop),Inv X B J H s->t J H Q->wx X (isTrue e X.e (eval e X.e)) (TP X B J Q) X.xe s
def PW(X:Cx)(e:Expr)(t:TT):Prop:=
 ∀(w:Sem Value)(B:PN)(s:Shared)(J:St)(H:Hp)(Q:Bool->Hp->Prop),Inv X B J H s->t J H Q->wx X (isTrue e X.e w) (TP X B J Q) X.xe s
variable{X:Cx}{e:Expr}
theorem PW.pt(h:PW X e t):PT X e t:=h _
def PA(X:Cx)(es:Ab)(t:TA):Prop:=
 ∀(G:Pos)(B:PN)(s:Shared)(J:St)(H:Hp)(Q:List V->Hp->Prop),Inv X B J H s->t J H Q->wx X (spliced (backTo G (starEach es X.e))) (AP X B J Q) X.xe s
def PS(X:Cx)(st:Stmt)(t:TS):Prop:=
 ∀(B:PN)(s:Shared)(J:St)(H:Hp)(D:Ends),Inv X B J H s->t D J H->wx X (exec st X.e) (SP X B D) X.xe s
def gb(X:Cx)(st:List Stmt)(t:TS):Prop:=
 ∀(B:PN)(s:Shared)(J:St)(H:Hp)(D:Ends),Inv X B J H s->t D J H->wx X (execs st X.e) (SP X B D) X.xe s
variable{M:Model}{A:Around}{E:VP}{s:Shared}
theorem cR(h:wpAny M A t Q E s)(e:∀a s,Q a s->i a s):wpAny M A t i E s:=bm h e λ_ _ x=>x
section
variable{X:Cx}
theorem bin{a b:Expr}{ta tb:TE}(r:PE X a ta)(t:PE X b tb){B:PN}{s:Shared}{J:St}{H:Hp}{R:V->V->Hp->Prop}(I:Inv X B J H s)(h:ta J H λx j=>tb J j λy H2=>R x y H2)
  {α:Type}{Q:α->Shared->Prop}{f:Value->Value->Sem α}
  (p:∀v u k x y H2,Inv X B J H2 k->RelV x v->RelV y u->R x y H2->wx X (f v u) Q X.xe k) :
  wx X (eval a X.e) (λv e=>wx X (eval b X.e) (λu n=>wx X (f v u) Q X.xe n) X.xe e) X.xe s:=by
 refine cR (r B s J H _ I h) λv i z=>?_;obtain⟨x,j,c,w,q⟩:=z;refine cR (t B i J j _ c q) λu k z=>?_;obtain⟨y,H2,m,g,d⟩:=z;exact p v u k x y H2 m w g d
noncomputable def JG(i:Nat):TE:=λJ H Q=>∃v,J[i]? = some (some v)/\Q v H
noncomputable def tC(v:V):TE:=λ_ H Q=>Q v H
theorem rM(N:X.N[i]? = some x)(w:CA X.e.scope x)(n:(x == ("__debug__":Str))=false:=by decide)(d:(x == ("__classdict__":Str))=false:=by decide):PE X (.Name x G) (JG i):=by
 intro B s J H Q I h;obtain⟨v,e,h⟩:=h;obtain⟨m,q,t⟩:=I.loc;obtain⟨u,r,l⟩:=t i x v N e w;have f:EP X B J Q u s:=⟨v,H,I,r,h⟩;rcases l with ⟨k,p⟩|⟨k,c,b,a⟩
 .exact qV (xy I.o.kind k q p f) n
 .rcases k with k|k
  .exact qV (xx I.o.kind k b a f) n
  .exact qV (wpAny_loadName_free I.o.kind k b a f d) n
theorem GU {i z G}:PE X (.Constant (.int i) z G) (tC (.int i)):=λ_ _ _ H _ I h=>wpAny_Constant_int ⟨.int i,H,I.tok _,⟨_,rfl⟩,h⟩
theorem Ki {b i G}:PE X (.Constant (.bool b) i G) (tC (.bl b)):=λ_ _ _ H _ I h=>Constant_bool ⟨.bl b,H,I,rfl,h⟩
theorem GS {i G}:PE X (.Constant .none i G) (tC .non):=λ_ _ _ H _ I h=>Constant_none ⟨.non,H,I,rfl,h⟩
theorem GP {x i G}:PE X (.Constant (.str x) i G) (tC (.str x)):=λ_ _ _ H _ I h=>Calls.Constant_str ⟨.str x,H,I.tok _,⟨_,rfl⟩,h⟩
def Gl(X:Cx)(x:Str):Prop:=X.e.kindOf x=some .globalImplicit
theorem jw(I:Inv X B J H s)(g:Gl X x)(m:X.g x=some u)(h:Q u s)
  (d:(x == ("__debug__":Str))=false:=by decide):wx X (eval (.Name x G) X.e) Q E s:=
 wt I.o.kind g (Calls.loadGlobal_global (by rw[I.o.glob];exact I.mod.glob.keeps I.bk) m h) d
theorem nX(a:Inv X B J H s)(g:Gl X x)(m:X.g x=none)(v:bootBuiltins x=some u)(h:Q u s)
  (n:x≠"__name__":=by decide) (d:(x == ("__debug__":Str))=false:=by decide):wx X (eval (.Name x G) X.e) Q E s:=by
 obtain⟨b,I,h2⟩:=a.mod.blt;exact wt a.o.kind g (Calls.loadGlobal_builtin (by rw[a.o.glob];exact a.mod.glob.keeps a.bk) m (by rw[a.o.blt];exact I.keeps a.bk) ((h2 x n).trans v) h) d
theorem rN(g:Gl X x)(m:X.g x=some u)(r:RelV v u)(d:(x == ("__debug__":Str))=false:=by decide):PE X (.Name x G) (tC v):=
 λ_ _ _ H _ I h=>jw I g m ⟨v,H,I,r,h⟩ d
theorem xZ(g:Gl X x)(m:X.g x=none)(a:bootBuiltins x=some u)(r:RelV v u)(n:x≠"__name__":=by decide)(d:(x == ("__debug__":Str))=false:=by decide):PE X (.Name x G) (tC v):=
 λ_ _ _ H _ I h=>nX I g m a ⟨v,H,I,r,h⟩ n d
def Pc(ta tb:TE)(k:Int->Int->Hp->Prop):St->Hp->Prop:=λJ H=>ta J H λx j=>tb J j λy H2=>∃i h,x=.int i/\y=.int h/\k i h H2
variable{a b:Expr}{ta tb:TE}{G:Pos}
noncomputable def yO(p:Int->Int->Bool)(ta tb:TE):TE:=λJ H Q=>Pc ta tb (λi j H2=>Q (.bl (p i j)) H2) J H
abbrev QB:TE->TE->TE:=yO λi j=>decide (i < j)
abbrev QC:TE->TE->TE:=yO λi j=>decide (i≤j)
abbrev QD:TE->TE->TE:=yO λi j=>decide (j < i)
abbrev QE:TE->TE->TE:=yO λi j=>decide (j≤i)
abbrev Pa:TE->TE->TE:=yO λi j=>decide (i=j)
abbrev O_:TE->TE->TE:=yO λi j=>!decide (i=j)
variable{tA tB':TT}{cu:Ab}
noncomputable def MX(t u:TT):TT:=λJ H Q=>t J H λc j=>if c=true then u J j Q else Q false j
noncomputable def O9(t u:TT):TT:=λJ H Q=>t J H λc j=>if c=true then Q true j else u J j Q
noncomputable def MP(t:TT):TT:=λJ H Q=>t J H λc j=>Q (!c) j
theorem D5(x:PT X a tA):PW X (.BoolOp .And [a] G) tA:=by
 intro w B s J H Q I h;refine isTrue_and (cR (x B s J H Q I h) λc n e=>?_);cases c with
 |true=>exact isTrue_and_nil e
 |false=>exact e
theorem GC(x:PT X a tA):PW X (.BoolOp .Or [a] G) tA:=by
 intro w B s J H Q I h;refine isTrue_or (cR (x B s J H Q I h) λc n e=>?_);cases c with
 |false=>exact isTrue_or_nil e
 |true=>exact e
theorem GD(e:PT X a tA)(n:PW X (.BoolOp .And (b::cu) G) tB'):PW X (.BoolOp .And (a::b::cu) G) (MX tA tB'):=by
 intro w B s J H Q I h;refine isTrue_and (cR (e B s J H _ I h) λc k z=>?_);obtain⟨j,x,q⟩:=z;cases c with
 |true=>exact n w B k J j Q x q
 |false=>exact⟨j,x,q⟩
theorem Kb(e:PT X a tA)(n:PW X (.BoolOp .Or (b::cu) G) tB'):PW X (.BoolOp .Or (a::b::cu) G) (O9 tA tB'):=by
 intro w B s J H Q I h;refine isTrue_or (cR (e B s J H _ I h) λc k z=>?_);obtain⟨j,x,q⟩:=z;cases c with
 |true=>exact⟨j,x,q⟩
 |false=>exact n w B k J j Q x q
theorem GG(x:PT X a tA):PT X (.UnaryOp .Not a G) (MP tA):=by intro B s J H Q I h;exact isTrue_not (x B s J H (λc j=>Q (!c) j) I h)
noncomputable def JS(ta tb:TE):TE:=λJ H Q=>ta J H λx j=>∃c,x=.bl c/\if c=true then tb J j Q else Q (.bl false) j
noncomputable def MO(ta tb:TE):TE:=λJ H Q=>ta J H λx j=>∃c,x=.bl c/\if c=true then Q (.bl true) j else tb J j Q
noncomputable def JI(ta:TE):TE:=λJ H Q=>ta J H λx j=>∃c,x=.bl c/\Q (.bl (!c)) j
theorem GQ {i} (h:PE X a t):PE X (.BoolOp i [a] G) t:=λB s J H Q I w=>BoolOp_one (h B s J H Q I w)
theorem GY(n:PE X a ta)(k:PE X (.BoolOp .And (b::cu) G) tb):PE X (.BoolOp .And (a::b::cu) G) (JS ta tb):=by
 intro B s J H Q I h;refine BoolOp_and (cR (n B s J H _ I h) λv f z=>?_);obtain⟨x,j,e,r,q⟩:=z;obtain⟨c,rfl,q⟩:=q;cases r;refine m_ ?_;cases c with
 |true=>exact k B f J j Q e q
 |false=>exact⟨.bl false,j,e,rfl,q⟩
theorem Kf(n:PE X a ta)(k:PE X (.BoolOp .Or (b::cu) G) tb):PE X (.BoolOp .Or (a::b::cu) G) (MO ta tb):=by
 intro B s J H Q I h;refine BoolOp_or (cR (n B s J H _ I h) λv f z=>?_);obtain⟨x,j,e,r,q⟩:=z;obtain⟨c,rfl,q⟩:=q;cases r;refine m_ ?_;cases c with
 |false=>exact k B f J j Q e q
 |true=>exact⟨.bl true,j,e,rfl,q⟩
theorem GR(n:PE X a ta):PE X (.UnaryOp .Not a G) (JI ta):=by intro B s J H Q I h;refine UnaryOp_ (cR (n B s J H _ I h) λv k z=>?_);obtain⟨x,j,e,r,q⟩:=z;obtain⟨c,rfl,q⟩:=q;cases r;exact not_of (m_ ⟨.bl (!c),j,e,rfl,q⟩)
noncomputable def O'(t:TT)(ta tb:TE):TE:=λJ H Q=>t J H λc j=>if c=true then ta J j Q else tb J j Q
theorem A9(f:PT X c tA)(n:PE X a ta)(k:PE X b tb):PE X (.IfExp c a b G) (O' tA ta tb):=by
 intro B s J H Q I h;refine wpAny_IfExp (cR (f B s J H _ I h) λd e z=>?_);obtain⟨j,x,q⟩:=z;cases d with
 |true=>exact n B e J j Q x q
 |false=>exact k B e J j Q x q
end
def iA(K:FG)(H:Hp)(a:Addr)(xs:List V):Prop:=
 Rd H a (.lst xs) \/
  ∃(o:Obj)(i:Array Value)(n:Nat),K.lookup a=some o/\o.cls=.type "list"/\o.dict=none/\o.data=.seq i n/\i.size≤sizeLine/\bi xs i.toList
def pL(K:FG)(H:Hp)(a:Addr)(xs:List V):Prop:=
 Rd H a (.tup xs) \/
  ∃(o:Obj)(i:Array Value)(n:Nat),K.lookup a=some o/\o.cls=.type "tuple"/\o.dict=none/\o.data=.seq i n/\i.size≤sizeLine/\bi xs i.toList
noncomputable def NW:Value->Option V
 | .none=>some .non
 | .bool b=>some (.bl b)
 | .int i _=>some (.int i)
 | .str x _=>some (.str x)
 | .bytes b _=>some (.byt b)
 | .float b _=>some (.flt b)
 | .ref a=>some (.ref a)
 | .type n=>some (.ty n)
 |_=>none
variable{u:Value}
theorem RelV.abs(r:RelV x u):NW u=some x:=by
 cases x with
 |non=>cases r;rfl
 |bl _=>cases r;rfl
 |int _=>obtain⟨t,rfl⟩:=r;rfl
 |str _=>obtain⟨t,rfl⟩:=r;rfl
 |byt _=>obtain⟨t,rfl⟩:=r;rfl
 |flt _=>obtain⟨t,rfl⟩:=r;rfl
 |ref _=>cases r;rfl
 |ty _=>cases r;rfl
variable{y:V}
theorem RelV.inj(r:RelV x u)(q:RelV y u):x=y:=hU (r.abs.symm.trans q.abs)
theorem bi.inj:∀{xs ys:List V}{q:LV},bi xs q->bi ys q->xs=ys
 |_,_,_,.nil,.nil=>rfl
 |_,_,_,.cons r t,.cons h x=>by rw[r.inj h,bi.inj t x]
section
variable{X:Cx}{B:PN}{J:St}{H:Hp}{s:Shared}{a:Addr}{xs ys:List V}
theorem iA.of{K:FG}(h:H a=some (.lst xs)):iA K H a xs:=.inl (.inl h)
theorem Inv.list(I:Inv X B J H s)(h:iA X.K H a xs):∃i:LV,bi xs i/\PlainL s.heap a i.toArray/\xs.length≤sizeLine:=by
 rcases h with h|⟨o,i,n,k,c,d,x,f,r⟩
 .obtain⟨z,i,n,r,e⟩:=h.ok I.h;exact⟨i,r,⟨_,n,e,rfl,rfl,rfl⟩,z⟩
 .refine⟨i.toList,r,⟨o,n,I.kIn a o k,c,d,by simpa using x⟩,?_⟩;have e:=r.length;simp only[qE]at e;lia
theorem Inv.tuple(I:Inv X B J H s)(h:pL X.K H a xs):∃i:LV,bi xs i/\IsTup s.heap a i.toArray/\xs.length≤sizeLine:=by
 rcases h with h|⟨o,i,n,k,c,_,x,f,r⟩
 .obtain⟨z,i,r,p⟩:=h.ok I.h;exact⟨i,r,p.tup,z⟩
 .refine⟨i.toList,r,⟨o,I.kIn a o k,c,n,by simpa using x⟩,?_⟩;have e:=r.length;simp only[qE]at e;lia
theorem Inv.list_inj(I:Inv X B J H s)(h:iA X.K H a xs)(h':iA X.K H a ys):xs=ys:=by
 obtain⟨t,r,⟨o,n,e,_,_,d⟩,_⟩:=I.list h;obtain⟨i,b,⟨o',c,k,_,_,x⟩,_⟩:=I.list h';rw[e]at k;cases k;rw[d]at x;injection x with f _;have:t=i:=by simpa using dz wu f
 subst this;exact r.inj b
theorem Inv.tuple_inj(I:Inv X B J H s)(h:pL X.K H a xs)(h':pL X.K H a ys):xs=ys:=by
 obtain⟨t,r,⟨o,e,_,n,d⟩,_⟩:=I.tuple h;obtain⟨i,b,⟨o',k,_,c,x⟩,_⟩:=I.tuple h';rw[e]at k;cases k;rw[d]at x;injection x with f _;have:t=i:=by simpa using dz wu f
 subst this;exact r.inj b
end
noncomputable abbrev Cx.wish(X:Cx)(E:VP):Cx:={ X with xe:=E }
abbrev Cx.nox(X:Cx):Cx:=X.wish λ_ _=>False
theorem Cx.Ok.wish(ok:X.Ok)(E:VP):(X.wish E).Ok:=
 ⟨ok.mod,ok.kind,ok.glob,ok.blt,ok.above,ok.inj,ok.has,ok.cab,ok.hd,ok.frames,ok.stk,ok.exf,ok.bs,ok.bsz,ok.noex,ok.exfs,ok.funs,ok.frf⟩
theorem Cx.Ok.unwish(ok:(X.wish E).Ok):X.Ok:=
 ⟨ok.mod,ok.kind,ok.glob,ok.blt,ok.above,ok.inj,ok.has,ok.cab,ok.hd,ok.frames,ok.stk,ok.exf,ok.bs,ok.bsz,ok.noex,ok.exfs,ok.funs,ok.frf⟩
section
variable{X:Cx}{B:PN}{J:St}{H:Hp}{s:Shared}{E:VP}
theorem Inv.wish(I:Inv X B J H s)(E:VP):Inv (X.wish E) B J H s:=⟨I.o.wish E,I.os,I.bare,I.base,I.loc,I.cell,I.free,I.freeC,I.pin,I.h,I.len⟩
theorem Inv.unwish(I:Inv (X.wish E) B J H s):Inv X B J H s:=⟨I.o.unwish,I.os,I.bare,I.base,I.loc,I.cell,I.free,I.freeC,I.pin,I.h,I.len⟩
set_option tactic.hygienic true in
theorem SP.unwish(h:SP (X.wish E) B D f s'):SP X B D f s':=by
 cases f with
 |next=>obtain⟨x,H',I,q⟩:=h;exact⟨x,H',I.unwish,q⟩
 |brk=>obtain⟨x,H',I,q⟩:=h;exact⟨x,H',I.unwish,q⟩
 |cont=>obtain⟨x,H',I,q⟩:=h;exact⟨x,H',I.unwish,q⟩
 |ret u=>obtain⟨v,x,H',I,r,q⟩:=h;exact⟨v,x,H',I.unwish,r,q⟩
theorem gb.nox{st:List Stmt}{t:TS}(h:gb X.nox st t):gb X st t:=λB s J H D I w=>
 bm (h B s J H D (I.wish _) w) (λ_ _ q=>q.unwish) λ_ _ z=>False.elim z
end
section
variable{X:Cx}{st:Stmt}{cu:List Stmt}{t u:TS}{e:Expr}{te:TE}{G:Pos}
noncomputable def JK:TS:=λD J H=>D.nx J H
noncomputable def MM(t u:TS):TS:=λD J H=>t { D with nx:=u D } J H
theorem D6:gb X [] JK:=λ_ _ J H _ I h=>pN ⟨J,H,I,h⟩
set_option tactic.hygienic true in
theorem kq(I:PS X st t)(h2:gb X cu u):gb X (st::cu) (MM t u):=by
 intro B s J H D x h;refine xj (cR (I B s J H { D with nx:=u D } x h) λf n q=>?_);cases f with
 |next=>obtain⟨e,H',a,q⟩:=q;exact h2 B n e H' D a q
 |ret v=>exact q
 |brk=>exact q
 |cont=>exact q
set_option tactic.hygienic true in
theorem mR(I:PS X st t):gb X [st] t:=by
 intro B s J H D x h;refine xj (cR (I B s J H D x h) λf a q=>?_);cases f with
 |next=>exact pN q
 |ret v=>exact q
 |brk=>exact q
 |cont=>exact q
noncomputable def JO:TS:=λD J H=>D.ct J H
theorem tw:PS X (.Continue G) JO:=λ_ _ J H _ I h=>wpAny_Continue ⟨J,H,I,h⟩
theorem Inv.quiet(I:Inv X B J H s):interactive X.e=false:=by simp[interactive,I.o.kind]
noncomputable def JM(te:TE):TS:=λD J H=>te J H λ_ j=>D.nx J j
theorem xX(n:PE X e te)(k:swapsWith e none G.line X.e=pure false:=by rfl):PS X (.Expr e G) (JM te):=by intro B s J H D I h;exact wpAny_Expr_any (cR (n B s J H _ I h) λv f z=>by obtain⟨x,j,a,r,q⟩:=z;exact⟨J,j,a,q⟩) I.quiet k
noncomputable def MN(te:TE):TS:=λD J H=>te J H D.rt
theorem AW(n:PE X e te):PS X (.Return (some e) G) (MN te):=by intro B s J H D I h;exact wpAny_Return_some (cR (n B s J H _ I h) λv k z=>by obtain⟨x,j,a,r,q⟩:=z;exact⟨x,J,j,a,r,q⟩)
noncomputable def MR(c:TT)(t u:TS):TS:=λD J H=>c J H λb j=>if b=true then t D J j else u D J j
theorem FC{c:Expr}{a b:List Stmt}{tc:TT}(f:PT X c tc)(n:gb X a t)(k:gb X b u):PS X (.If c a b G) (MR tc t u):=by
 intro B s J H D I h;refine wpAny_If (cR (f B s J H _ I h) λd e z=>?_);obtain⟨j,x,q⟩:=z;cases d with
 |true=>exact n B e J j D x q
 |false=>exact k B e J j D x q
noncomputable def Av:TS:=λ_ _ _=>False
theorem AX:PS X st Av:=λ_ _ _ _ _ _ h=>h.elim
theorem la:gb X i Av:=λ_ _ _ _ _ _ h=>h.elim
end
noncomputable abbrev TG:=V->St->Hp->(St->Hp->Prop)->Prop
noncomputable abbrev Ix:=List V->St->Hp->(St->Hp->Prop)->Prop
def PG(X:Cx)(a:Expr)(t:TG):Prop:=
 ∀(B:PN)(s:Shared)(J:St)(H:Hp)(v:V)(u:Value)(Q:St->Hp->Prop),Inv X B J H s->RelV v u->t v J H Q ->
  wx X (assign a X.e u) (λ_ s'=>∃h H',Inv X B h H' s'/\Q h H') X.xe s
def Ls(X:Cx)(x:Ab)(t:Ix):Prop:=
 ∀(B:PN)(s:Shared)(J:St)(H:Hp)(v:List V)(q:LV)(Q:St->Hp->Prop),Inv X B J H s->bi v q->t v J H Q ->
  wx X (assignInOrder ((assignEach x X.e).map (·.2)) q) (λ_ s'=>∃h H',Inv X B h H' s'/\Q h H') X.xe s
noncomputable abbrev Qe:=V->V->V->Hp->(Hp->Prop)->Prop
noncomputable abbrev N0:=V->V->Hp->VK->Prop
def Oz(X:Cx)(o:Operator)(t:N0):Prop:=
 ∀(B:PN)(s:Shared)(J:St)(H:Hp)(x y:V)(v u:Value)(Q:VK),Inv X B J H s->RelV x v->RelV y u->t x y H Q ->
  wx X (inplaceOp o v u) (EP X B J Q) X.xe s
section
variable{X:Cx}{G:Pos}
noncomputable def FJ(i:Nat):TG:=λv J H Q=>Q (J.set i (some v)) H
theorem Ec(N:X.N.Nodup)(hi:X.N[i]? = some x)(e:Loc X.e.scope x)(f:X.fn x=true\/X.e.scope.names.lookup x=some .local:=by first|exact .inl rfl|exact .inr rfl|assumption):PG X (.Name x G) (FJ i):=by intro B s J H v u Q I r h;exact xr (nJ I N hi e r (λs' a=>⟨_,H,a,h⟩) f)
noncomputable def Nz:Ix:=λv J H Q=>v=[]/\Q J H
noncomputable def K4(t:TG)(u:Ix):Ix:=λs J H Q=>∃v r,s=v::r/\t v J H λh H'=>u r h H' Q
theorem Eb:Ls X [] Nz:=by intro B s J H v q Q I r h;obtain⟨e,h⟩:=h;subst e;cases r;exact assignInOrder_nil ⟨J,H,I,h⟩
theorem A0{e:Expr}{es:Ab}{t:TG}{u:Ix}(I:PG X e t)(h2:Ls X es u)
  (f:(assignEach (e::es) X.e).map (·.2)=assign e X.e::(assignEach es X.e).map (·.2):=by rfl):Ls X (e::es) (K4 t u):=by
 intro B s J H d q Q x r h;obtain⟨v,p,k,h⟩:=h;subst k;cases r with
 |cons r c=>rw[f];refine assignInOrder_cons (cR (I B s J H _ _ _ x r h) λ_ m z=>?_);obtain⟨n,j,a,b⟩:=z;exact h2 B m n j _ _ Q a c b
noncomputable def Ny(K:FG)(n:Nat)(t:Ix):TG:=λv J H Q=>∃a xs,v=.ref a/\pL K H a xs/\xs.length=n/\t xs J H Q
theorem GO(p:X.c=true)(h:Ls X es t)
  (q:(assignEach es X.e).length=n:=by rfl) (x:(assignEach es X.e).findIdx? (·.1)=none:=by rfl):PG X (.Tuple es k G) (Ny X.K n t):=by
 intro B s J H v u Q I r w;obtain⟨a,xs,m,d,l,w⟩:=w;subst m;cases r;obtain⟨j,f,g,z⟩:=I.tuple d;refine assign_Tuple_tuple (I.o.hd p) g (by simp[q,<- l,f.length]) x λh' i=>?_
 have c:Inv X B J H { s with heap:=h' }:=I.kept (t':=s.toks) λb o e=>i b o (bO (bg e)) e;exact h B _ J H xs _ Q c (by simpa using f) w
noncomputable def JR(te:TE)(g:TG):TS:=λD J H=>te J H λx j=>g x J j D.nx
theorem GL{tg e:Expr}{te:TE}{g:TG}(k:PE X e te)(f:PG X tg g)(b:swapsWithSole [tg] e G.line X.e=pure false:=by rfl)(w:swappedStores [tg] e X.e=pure none:=by rfl)
  (I:(assignEach [tg] X.e).map (·.2)=[assign tg X.e]:=by rfl):PS X (.Assign [tg] e G) (JR te g):=by
 intro B s J H D a h;refine wpAny_Assign_stores (cR (k B s J H _ a h) λv m z=>?_) b w;obtain⟨x,j,n,r,c⟩:=z;rw[I];exact cR (f B m J j x v _ n r c) λ_ t q=>q
theorem AV(N:X.N.Nodup)(hi:X.N[i]? = some x)(c:Loc X.e.scope x)(k:PE X e te)(b:swapsWith e (some (.Name x pos')) G.line X.e=pure false:=by rfl)(f:X.fn x=true\/X.e.scope.names.lookup x=some .local:=by first|exact .inl rfl|exact .inr rfl|assumption) :
  PS X (.Assign [.Name x pos'] e G) (JR te (FJ i)):=by
 intro B s J H D I h;refine wpAny_Assign_Name (cR (k B s J H _ I h) λv m z=>?_) b;obtain⟨y,j,a,r,q⟩:=z;exact nJ a N hi c r (λt n=>⟨_,j,n,q⟩) f
noncomputable def MW(i:Nat)(te:TE)(t:N0):TS:=λD J H=>∃x,J[i]? = some (some x)/\te J H λy j=>t x y j λz H2=>D.nx (J.set i (some z)) H2
set_option tactic.hygienic true in
theorem GK(K:X.N.Nodup)(hi:X.N[i]? = some x)(t:Loc X.e.scope x)(A:PE X e te)(Q:Oz X N ti)(C:X.fn x=true\/X.e.scope.names.lookup x=some .local:=by first|exact .inl rfl|exact .inr rfl|assumption) :
  PS X (.AugAssign (.Name x pos') N e G) (MW i te ti):=by
 intro B s J H D I h;obtain⟨v,F,h⟩:=h;obtain⟨m,M,E⟩:=I.loc;have q:CA X.e.scope x:=by rcases t with k|k;exact .inl k;exact .inr (.inl k)
 obtain⟨u,r,l⟩:=E i x v hi F q;refine wpAny_AugAssign_Name ?_;have g:wx X (eval e X.e) (λw f=>wx X (inplaceOp N u w) (λr b=>wx X (storeName X.e x r) (λ_=>SP X B D .next) X.xe b) X.xe f) X.xe s:=by refine cR (A B s J H _ I h) λw Z p=>?_;obtain⟨y,j,d,V,R⟩:=p;refine cR (Q B Z J j v y u w _ d r V R) λz s2 p=>?_;obtain⟨zv,H2,o,W,T⟩:=p;exact nJ o K hi t W (λs3 S=>⟨_,H2,S,T⟩) C
 rcases l with ⟨a,L⟩|⟨a,c,P,n⟩
 .exact xy I.o.kind a M L g
 .rcases a with a|a
  .exact xx I.o.kind a P n g
  .rcases t with k|k
   .have:X.e.scope.names.lookup x=some .free:=a;rw[k]at this;cases this
   .have:X.e.scope.names.lookup x=some .free:=a;rw[k]at this;cases this
noncomputable def PV(f:Int->Int->Int):N0:=λx y H Q=>∃i j,x=.int i/\y=.int j/\Q (.int (f i j)) H
theorem HA:Oz X .Add (PV λi j=>i+j):=by intro B s J H x y v u Q I r n h;obtain⟨i,j,e,a,q⟩:=h;subst e;subst a;obtain⟨t,rfl⟩:=r;obtain⟨k,rfl⟩:=n;exact wo ⟨.int _,H,I.tok _,⟨_,rfl⟩,q⟩
end
section
variable{X:Cx}{G:Pos}
noncomputable def Gp(c:TT)(tb:TS):TS:=λD J H=>∃W:Nat->St->Hp->Prop,(∃m,W m J H)/\∀m J H,W m J H ->
 c J H λb j=>if b=true then ∃N:St->Hp->Prop,(∀h H',N h H'->∃x,x < m/\W x h H')/\tb { D with nx:=N,ct:=N,bk:=D.nx } J j else D.nx J j
set_option tactic.hygienic true in
theorem tu(y:PassesOwn (model X.p X.w) X.A X.e X.xe)(S:PT X c tc)(o:gb X i tb):PS X (.While c i [] G) (Gp tc tb):=by
 intro B s J H D I h;obtain⟨W,⟨K,C⟩,t⟩:=h;refine wpAny_While (codeAny_whileLoop (λn s'=>∃g H',Inv X B g H' s'/\W n g H') ?_ K ⟨J,H,I,C⟩);rintro n P ⟨e,j,z,E⟩;refine jR y (cR (S B P e j _ z (t n e j E)) λb A F=>?_);obtain⟨H2,u,q⟩:=F;cases b with
 |true=>
  obtain⟨N,l,q⟩:=q;rw[ai rfl];refine jR y (cR (o B A e H2 _ u q) λf L k=>?_);cases f with
  |next=>obtain⟨a,x,m,d⟩:=k;obtain⟨p,r,w⟩:=l a x d;exact⟨p,r,a,x,m,w⟩
  |cont=>obtain⟨a,x,m,d⟩:=k;obtain⟨p,r,w⟩:=l a x d;exact⟨p,r,a,x,m,w⟩
  |brk=>exact k
  |ret v=>exact k
 |false=>rw[ar bA];exact pN ⟨e,H2,u,q⟩
end
structure It where
 go:Nat->Hp->Prop
 yld:Nat->Hp->V->Hp->Prop
 stop:Nat->Hp->Prop
def sN(X:Cx)(B:PN)(H:Hp)(b:Addr):Prop:=
 H b=none/\b≠X.e.locals/\b ∉ X.fs/\(b ∈ X.ex\/X.z.heap.objs.size≤b)/\(∀x c,X.e.cells.lookup x=some c->c≠b)/\∀p ∈ X.pn++B,p.1≠b
variable{B:PN}{J:St}
theorem Inv.fpOk(I:Inv X B J H s)(h:s.heap.objs.size≤b)(n:H' b=none):sN X B H' b:=by
 refine⟨n,w_ (bG I.lt h),I.nofs h,.inr (bN I.sz h),λx c e z=>?_,λp a z=>?_⟩
 .obtain⟨v,q⟩:=I.cell x c e;exact absurd (bG q.lt (by rw[z];exact h)) (gw _)
 .exact absurd (bG (bg (I.pin p a).1) (by rw[z];exact h)) (gw _)
structure Turn(P:Program)(w:World)(K:FG)(tg:Expr)(J9:It)(fp:List Addr)(it:Addr)(tn:Nat->Heap->Prop):Prop where
 mem:it ∈ fp
 obj:∀i h,tn i h->∀b ∈ fp,∃o,h.get? b=some o/\∀v,o.data≠.cell v
 keep:∀i h h',tn i h->(∀b ∈ fp,∀o,h.get? b=some o->h'.get? b=some o)->tn i h'
 item:∀(X:Cx),X.p=P->X.w=w->X.K=K->X.c=true->∀(i:Nat)(pins:PN)(s:Shared)(J:St)(H:Hp)(E:VP),Inv X pins J H s->(∀b ∈ fp,sN X pins H b)->tn i s.heap->J9.go i H ->
  wpAny (model P w) X.A (pyNext (.ref it)) (fun r s1=>∃u,r=some u /\
   wpAny (model P w) X.A (letOwnedTupleGo tg (.ref it) u) (λ_ s2=>∃x H',Inv X pins J H' s2/\RelV x u/\J9.yld i H x H'/\tn (i+1) s2.heap/\∀b ∈ fp,H' b=none) E s1) E s
 done:∀(X:Cx),X.p=P->X.w=w->X.K=K->X.c=true->∀(i:Nat)(pins:PN)(s:Shared)(J:St)(H:Hp)(E:VP),Inv X pins J H s->(∀b ∈ fp,sN X pins H b)->tn i s.heap->J9.stop i H ->
  wpAny (model P w) X.A (pyNext (.ref it)) (λr s1=>r=none/\Inv X pins J H s1) E s
 self:∀(A:Around)(i:Nat)(s:Shared)(Q:VP)(E:VP),tn i s.heap->Q (.ref it) s->wpAny (model P w) A (pyIter (.ref it)) Q E s
noncomputable abbrev TI:=St->Hp->(It->Hp->Prop)->Prop
def N1(X:Cx)(B:PN)(J:St)(tg:Expr)(R:It->Hp->Prop)(i:Value)(s:Shared):Prop:=
 ∃(t:Addr)(f:List Addr)(n:Nat->Heap->Prop)(h:It)(H':Hp),i=.ref t/\Inv X B J H' s/\Turn X.p X.w X.K tg h f t n/\n 0 s.heap/\(∀b ∈ f,sN X B H' b)/\R h H'
def PI(X:Cx)(tg iter:Expr)(w:TI):Prop:=
 ∀(B:PN)(s:Shared)(J:St)(H:Hp)(R:It->Hp->Prop),Inv X B J H s->w J H R ->
  wx X (eval iter X.e) (λv h=>wx X (pyIter v) (N1 X B J tg R) X.xe h) X.xe s
variable{tg:Expr}
theorem ua(e:s.heap.get? i=some o)(c:o.cls=.type n)(d:o.data=.fields z)
    (a:["enumerate","zip","dict_itemiterator","dict_reverseitemiterator","odict_iterator","itertools.zip_longest","itertools.pairwise"].contains n=false) (x:Q () s):wpAny M A (letOwnedTupleGo tg (.ref i) u) Q E s:=by
  unfold letOwnedTupleGo;cases tg<;>first
    |exact aJ x
    | (cases u <;> first
        |exact aJ x
        | (refine ae (wpAny_load e ?_)
           rw[c,d];show wpAny M A (if (["enumerate","zip","dict_itemiterator","dict_reverseitemiterator","odict_iterator","itertools.zip_longest","itertools.pairwise"].contains n && z[0]? == some (rawInt _))=true then _ else _) Q E s;rw[ar (by intro h;rw[a,qx]at h;cases h)];exact aJ x))
noncomputable def Me(K:FG)(a:Addr):It:=
 ⟨λi H=>∃xs x,iA K H a xs/\xs[i]? = some x,λi H x H'=>H'=H/\∀xs,iA K H a xs->xs[i]? = some x,λi H=>∃xs,iA K H a xs/\xs.length≤i⟩
noncomputable def OE(K:FG)(a:Addr):It:=
 ⟨λi H=>∃xs x,pL K H a xs/\xs[i]? = some x,λi H x H'=>H'=H/\∀xs,pL K H a xs->xs[i]? = some x,λi H=>∃xs,pL K H a xs/\xs.length≤i⟩
noncomputable def Md(lo:Int)(n:Nat):It:=⟨λi _=>i < n,λi H x H'=>H'=H/\x=.int (lo+i),λi _=>n≤i⟩
variable{w:World}{K:FG}
theorem yJ(a t:Addr):Turn P w K tg (Me K a) [t] t (λi h=>h.IsListIter t a i) where
 mem:=by simp
 obj:=λi h st b n=>by
  have e:b=t:=by simpa using n
  subst e;obtain⟨o,e,c,d⟩:=st;exact⟨o,e,λv z=>by rw[d]at z;cases z⟩
 keep:=λi h h' st k=>st.at λo e=>k t (by simp) o e
 item:=by
  intro X S A y L i B s J H E I m st F;subst S A y;obtain⟨xs,x,q,C⟩:=F;obtain⟨D,G,p,V⟩:=I.list q;obtain⟨u,R,W⟩:=G.get C;obtain⟨r,g,Q,f3,j,l⟩:=m t (by simp);refine wpAny_pyNext_list_item st p.isList (x:=u) (by simpa using R) λh' f Z=>?_
  have M:Inv X B J H { s with heap:=h' }:=I.turned (t':=s.toks) (λb o n e=>(Z.2 b n).trans e) r g f3 j l;obtain⟨o,e,c,d⟩:=id f;exact⟨u,rfl,ua (s:={ s with heap:=h' }) e c d (by decide) ⟨x,H,M,W,⟨rfl,λys T=>by rw[I.list_inj T q];exact C⟩,f,λb n=>(m b n).1⟩⟩
 done:=by intro X S A y L i B s J H E I m st F;subst S A y;obtain⟨xs,q,C⟩:=F;obtain⟨D,G,p,V⟩:=I.list q;obtain⟨r,g,Q,f3,j,l⟩:=m t (by simp);have hl:=G.length;exact wpAny_pyNext_list_end (I.o.hd L) st p.isList (by simp;lia) λh' N=>⟨rfl,I.turned (t':=s.toks) (λb o n e=>N b o n e) r g f3 j l⟩
 self:=λ_ _ _ _ _ st h=>wpAny_pyIter_listiter st h
theorem uS(a t:Addr):Turn P w K tg (OE K a) [t] t (λi h=>h.IsTupleIter t a i) where
 mem:=by simp
 obj:=λi h st b n=>by
  have e:b=t:=by simpa using n
  subst e;obtain⟨o,e,c,d⟩:=st;exact⟨o,e,λv z=>by rw[d]at z;cases z⟩
 keep:=λi h h' st k=>st.at λo e=>k t (by simp) o e
 item:=by
  intro X F C S L i B s J H E I r st A;subst F C S;obtain⟨xs,x,q,D⟩:=A;obtain⟨f,G,p,V⟩:=I.tuple q;obtain⟨u,R,W⟩:=G.get D;obtain⟨g,j,Q,f3,l,y⟩:=r t (by simp);refine wpAny_pyNext_tuple_item st (show s.heap.IsTuple a f.toArray from p) (x:=u) (by simpa using R) λh' m Z=>?_
  have M:Inv X B J H { s with heap:=h' }:=I.turned (t':=s.toks) (λb o n e=>(Z.2 b n).trans e) g j f3 l y;obtain⟨o,e,c,d⟩:=id m;exact⟨u,rfl,ua (s:={ s with heap:=h' }) e c d (by decide) ⟨x,H,M,W,⟨rfl,λys T=>by rw[I.tuple_inj T q];exact D⟩,m,λb n=>(r b n).1⟩⟩
 done:=by intro X F C S L i B s J H E I r st A;subst F C S;obtain⟨xs,q,D⟩:=A;obtain⟨f,G,p,V⟩:=I.tuple q;obtain⟨g,j,Q,f3,l,y⟩:=r t (by simp);have hl:=G.length;exact wpAny_pyNext_tuple_end (I.o.hd L) st (show s.heap.IsTuple a f.toArray from p) (by simp;lia) λh' N=>⟨rfl,I.turned (t':=s.toks) (λb o n e=>N b o n e) g j f3 l y⟩
 self:=λ_ _ _ _ _ st h=>wpAny_pyIter_tupleiter st h
theorem uT(x:Addr)(lo:Int)(n:Nat):Turn P w K tg (Md lo n) [x] x (λi h=>IsRangeIter h x (lo+(i:Nat) * 1) ((n:Int)-(i:Nat)) 1) where
 mem:=by simp
 obj:=λi h st b a=>by
  have e:b=x:=by simpa using a
  subst e;exact⟨_,st,λv z=>by have D:Data.fields _=Data.cell v:=z;cases D⟩
 keep:=λi h h' st k=>k x (by simp) _ st
 item:=by
  intro X u l d g i B s J H E I c st j;subst u l d;obtain⟨m,r,F,f3,p,q⟩:=c x (by simp);have W:=Walks.range (prog:=X.p) (w:=X.w) (I.o.hd g) x lo 1 n;refine W.item i s _ _ j st λv h' tk A f C=>?_
  obtain⟨t,rfl⟩:=A;have y:Inv X B J H { s with heap:=h',toks:=tk }:=I.turned (λb o a e=>C b o (by simpa using a) e) m r f3 p q;refine⟨_,rfl,ua (s:={ s with heap:=h',toks:=tk }) (n:="range_iterator") f rfl rfl (by decide) ⟨.int (lo+i),H,y,⟨t,?_⟩,⟨rfl,rfl⟩,f,λb a=>(c b a).1⟩⟩;rw[Int.mul_one]
 done:=by intro X u l d g i B s J H E I c st j;subst u l d;obtain⟨m,r,F,f3,p,q⟩:=c x (by simp);exact xD (I.o.hd g) st (by have:n≤i:=j;lia) λh' S=>⟨rfl,I.turned (t':=s.toks) (λb o a e=>S b o a e) m r f3 p q⟩
 self:=λ_ _ _ _ _ st h=>xB st h
section
variable{X:Cx}{tg:Expr}
theorem AS{lo hi:Int}{t u v:Tok}{tk:Nat}(h:Inv X B J H s)(I:-(2 ^ 62)≤lo)(h2:lo < 2 ^ 62)(k:-(2 ^ 62)≤hi)(f:hi < 2 ^ 62)
  (q:R (Md lo (hi-lo).toNat) H):wx X (pyIter (.ref s.heap.objs.size)) (N1 X B J tg R) E { s with heap:=s.heap.push { cls:=.type "range",data:=.fields #[.int lo t,.int hi u,.int 1 v] },toks:=tk }:=by
 refine xu (IsRange.new ..) (small_one I h2 k f) ?_;have x:Inv X B J H { s with heap:=s.heap.push { cls:=.type "range",data:=.fields #[.int lo t,.int hi u,.int 1 v] },toks:=tk }:=h.kept fun b o e=>bM _ e;refine⟨(s.heap.push { cls:=.type "range",data:=.fields #[.int lo t,.int hi u,.int 1 v] }).objs.size,[(s.heap.push { cls:=.type "range",data:=.fields #[.int lo t,.int hi u,.int 1 v] }).objs.size],_,_,H,rfl,
  x.kept (t':=tk) λb o e=>bM _ e,uT _ lo (hi-lo).toNat,?_,λb c=>?_,q⟩
 .have a:lo+((0:Nat):Int) * 1=lo:=by simp
  have n:(((hi-lo).toNat:Nat):Int)-((0:Nat):Int)=gi lo hi 1:=by rw[rangeSize_one];split<;>lia
  show IsRangeIter _ _ (lo+((0:Nat):Int) * 1) ((((hi-lo).toNat:Nat):Int)-((0:Nat):Int)) 1;rw[a,n];exact eF _ rfl
 .have e:b=(s.heap.push { cls:=.type "range",data:=.fields #[.int lo t,.int hi u,.int 1 v] }).objs.size:=by simpa using c
  subst e;exact x.fpOk (aw _) (x.h.fresh (aw _))
noncomputable def KZ(ta:TA):TI:=λJ H R=>ta J H λv j=>∃h:Int,v=[.int h]/\-(2 ^ 62)≤h/\h < 2 ^ 62/\R (Md 0 h.toNat) j
theorem yX{a:Expr}{ta:TA}{p G:Pos}(g:Gl X "range")(m:X.g "range"=none)(b:PA X [a] ta)(c:starEach [a] X.e=[(false,eval a X.e)]:=by rfl):PI X tg (.Call (.Name "range" p) [a] [] G) (KZ ta):=by
 intro B s J H R I h;refine Call_ (nX I g m boot_range (qz (cR (b G B s J H _ I h) λq u z=>?_) c rfl));obtain⟨i,j,f,d,k⟩:=z;obtain⟨x,e,k,v,n⟩:=k;subst e;cases d with
 |cons r w=>cases w;obtain⟨t,rfl⟩:=r;exact call_range_1 (AS f (by lia) (by lia) k v (by simpa using n))
noncomputable def MS(w:TI)(g:TG)(tb:TS):TS:=λD J H=>w J H λh j=>∃W:Nat->Nat->St->Hp->Prop,(∃m,W 0 m J j)/\∀i m J H,W i m J H ->
 (h.stop i H/\D.nx J H)\/(h.go i H/\∃N:St->Hp->Prop,(∀a H',N a H'->∃e,e < m/\W (i+1) e a H')/\∀x H',h.yld i H x H'->g x J H' λs H2=>tb { D with nx:=N,ct:=N,bk:=D.nx } s H2)
noncomputable def lb(f:List Addr)(h:Heap):PN:=f.filterMap λb=>(h.get? b).map λo=>(b,o)
theorem im(x:b ∈ i)(e:h.get? b=some o):(b,o) ∈ lb i h:=js.mpr ⟨b,x,by rw[e];rfl⟩
theorem y0(s:p ∈ lb i h):p.1 ∈ i/\h.get? p.1=some p.2:=by
 obtain⟨b,a,e⟩:=js.mp s;cases q:h.get? b with
 |none=>rw[q]at e;cases e
 |some o=>rw[q]at e;have x:(b,o)=p:=hU e;subst x;exact⟨a,q⟩
theorem Inv.pinned(I:Inv X B J H s)(k:∀b ∈ i,sN X B H b)(c:∀b ∈ i,∃o,s.heap.get? b=some o/\∀v,o.data≠.cell v):Inv X (B++lb i s.heap) J H s:=
 I.pins_of λp m=>(jq.mp m).elim (λz=>I.pin p (b_ _ z)) λz=>by obtain⟨x,e⟩:=y0 z;obtain⟨f,a,n,_⟩:=k p.1 x;obtain⟨o,h,d⟩:=c p.1 x;rw[e]at h;cases h;exact⟨e,f,a,n,d⟩
theorem Inv.unpinned(I:Inv X (B++i) J H s):Inv X B J H s:=I.pins_of λp h=>I.pin p (b_ _ (gm _ h))
set_option tactic.hygienic true in
theorem GI{iter:Expr}{y:List Stmt}{wi:TI}{g:TG}{tb:TS}{G:Pos}(P:PassesOwn (model X.p X.w) X.A X.e X.xe)(hc:X.c=true)(hi:PI X tg iter wi)(hg:PG X tg g)(p:gb X y tb)
  (hs:∀x,foldedSetIterable iter X.e x=pure x:=by intro _;rfl):PS X (.For tg iter y [] G) (MS wi g tb):=by
 intro B s J H D a h;refine wpAny_For (cR (hi B s J H _ a h) λv s1 I=>cR I λitv s2 h2=>?_) hs;obtain⟨it,F,tn,J9,H2,e,I2,T,st2,f2,W,⟨m0,w0⟩,L⟩:=h2;subst e;have q:∀{H':Hp},(∀b ∈ F,H' b=none)->∀b ∈ F,sN X B H' b:=λhn b p=>⟨hn b p,(f2 b p).2⟩
 refine codeAny_forLoop_any (λn s'=>∃i l H',Inv X B l H' s'/\tn i s'.heap/\(∀b ∈ F,H' b=none)/\W i n l H') ?_ m0 ⟨0,J,H2,I2,st2,λb p=>(f2 b p).1,w0⟩;rintro n s3 ⟨i,S,M,I3,C,K,w3⟩;rcases L i n S M w3 with ⟨E,qn⟩|⟨go,N,hN,step⟩
 .refine jR P (cR (T.done X rfl rfl rfl hc i B s3 S M X.xe I3 (q K) C E) λr s4 z=>?_);obtain⟨V,I4⟩:=z;subst V;exact pN ⟨S,M,I4,qn⟩
 .refine jR P (cR (T.item X rfl rfl rfl hc i B s3 S M X.xe I3 (q K) C go) λr s4 z=>?_);obtain⟨u,V,h4⟩:=z;subst V;refine jR P (cR h4 λ_ s5 z=>?_);obtain⟨x,H5,I5,r5,y5,j,R⟩:=z;have Q:=I5.pinned (q R) (T.obj _ _ j);refine jR P (cR (hg _ s5 S H5 x u _ Q r5 (step x H5 y5)) λ_ s6 z=>?_);obtain⟨J6,H6,I6,q6⟩:=z;refine jR P (cR (p _ s6 J6 H6 _ I6 q6) λf Z w=>?_);have again:∀{t:St}{k:Hp},Inv X (B++lb F s5.heap) t k Z->N t k->∃m,m < n/\∃i l H',Inv X B l H' Z/\tn i Z.heap/\(∀b ∈ F,H' b=none)/\W i m l H':=λ{t k} c A=>by
   obtain⟨m',hm,w7⟩:=hN t k A;refine⟨m',hm,i+1,t,k,c.unpinned,T.keep _ _ _ j λb p o e=>(c.pin (b,o) (b_ _ (b_ _ (im p e)))).1,λb p=>?_,w7⟩;obtain⟨o,e,d⟩:=T.obj _ _ j b p;exact(c.pin (b,o) (b_ _ (b_ _ (im p e)))).2.1
  cases f with
  |next=>obtain⟨t,k,c,A⟩:=w;exact again c A
  |cont=>obtain⟨t,k,c,A⟩:=w;exact again c A
  |brk=>obtain⟨t,k,c,w⟩:=w;exact⟨t,k,c.unpinned,w⟩
  |ret v=>obtain⟨x7,t,k,c,r7,w⟩:=w;exact⟨x7,t,k,c.unpinned,r7,w⟩
end
noncomputable abbrev R2:=V->V->Hp->VK->Prop
def iT(X:Cx)(f:Value->Value->Sem Value)(r:R2):Prop:=
 ∀(B:PN)(s:Shared)(J:St)(H:Hp)(x y:V)(v u:Value)(Q:VK),Inv X B J H s->RelV x v->RelV y u->r x y H Q ->
  wx X (f v u) (EP X B J Q) X.xe s
def NY(X:Cx)(f:Value->Sem Value)(r:V->Hp->VK->Prop):Prop:=
 ∀(B:PN)(s:Shared)(J:St)(H:Hp)(x:V)(v:Value)(Q:VK),Inv X B J H s->RelV x v->r x H Q ->
  wx X (f v) (EP X B J Q) X.xe s
def dc(X:Cx)(f:Value)(r:List V->Hp->VK->Prop):Prop:=
 ∀(B:PN)(s:Shared)(J:St)(H:Hp)(xs:List V)(q:LV)(Q:VK),Inv X B J H s->bi xs q->r xs H Q ->
  wx X (call f q) (EP X B J Q) X.xe s
def NZ(X:Cx)(r:V->Hp->(Bool->Hp->Prop)->Prop):Prop:=
 ∀(B:PN)(s:Shared)(J:St)(H:Hp)(x:V)(v:Value)(Q:Bool->Hp->Prop),Inv X B J H s->RelV x v->r x H Q ->
  wx X (truthy v) (TP X B J Q) X.xe s
noncomputable def Gq(r:R2)(ta tb:TE):TE:=λJ H Q=>ta J H λx j=>tb J j λy H2=>r x y H2 Q
noncomputable def O7(r:V->Hp->VK->Prop)(ta:TE):TE:=λJ H Q=>ta J H λx j=>r x j Q
noncomputable def rI(C:Int->Int->Prop)(g:Int->Int->V):R2:=λx y H Q=>∃i j,x=.int i/\y=.int j/\C i j/\Q (g i j) H
noncomputable def D3(g:Int->Int->V):R2:=λx y H Q=>∃i j,x=.int i/\y=.int j/\Q (g i j) H
def rU(g:Int->V):V->Hp->VK->Prop:=λx H Q=>∃i,x=.int i/\Q (g i) H
section
variable{X:Cx}{a b c:Expr}{ta tb tc:TE}{G:Pos}
theorem Ii(r:PE X a ta)(t:PE X b tb){B:PN}{s:Shared}{J:St}{H:Hp}{R:V->V->Hp->Prop}(I:Inv X B J H s)
  (h:ta J H λx j=>tb J j λy H2=>R x y H2) {Q:VP}{f:Value->Value->Sem Value}
  (p:∀v u k x y H2,Inv X B J H2 k->RelV x v->RelV y u->R x y H2->wx X (f v u) Q X.xe k) :
  wx X (eval a X.e) (λv e=>wx X (eval b X.e) (λu n=>wx X (f v u) Q X.xe n) X.xe e) X.xe s:=by
 refine cR (r B s J H _ I h) λv i z=>?_;obtain⟨x,j,c,w,q⟩:=z;refine cR (t B i J j _ c q) λu k z=>?_;obtain⟨y,H2,m,g,d⟩:=z;exact p v u k x y H2 m w g d
theorem Kg{o:Operator}{r:R2}(f:iT X (binaryOp o) r)(n:PE X a ta)(k:PE X b tb):PE X (.BinOp a o b G) (Gq r ta tb):=by intro B s J H Q I h;exact wpAny_BinOp (Ii n k I h λv u t x y H2 e c m q=>f B t J H2 x y v u Q e c m q)
theorem Ke(o:NY X (unaryOp i) r)(n:PE X a ta):PE X (.UnaryOp i a G) (O7 r ta):=by intro B s J H Q I h;exact UnaryOp_ (cR (n B s J H _ I h) λv f z=>by obtain⟨x,j,e,k,q⟩:=z;exact o B f J j x v Q e k q)
theorem LI{f:Value->Value->Sem Value}{C:Int->Int->Prop}{g:Int->Int->Int}
  (rule:∀(i j:Int)(t u:Tok)(s:Shared)(Q:VP)(E:VP),C i j->Q (.int (g i j) s.toks) { s with toks:=s.toks+1 }->wx X (f (.int i t) (.int j u)) Q E s) :
  iT X f (rI C λi j=>.int (g i j)):=by
 intro B s J H x y v u Q I r a h;obtain⟨i,j,rfl,rfl,c,q⟩:=h;obtain⟨t,rfl⟩:=r;obtain⟨e,rfl⟩:=a;exact rule i j t e s _ _ c ⟨.int (g i j),H,I.tok _,⟨_,rfl⟩,q⟩
theorem KA{f:Value->Value->Sem Value}{g:Int->Int->Int}
  (rule:∀(i j:Int)(t u:Tok)(s:Shared)(Q:VP)(E:VP),Q (.int (g i j) s.toks) { s with toks:=s.toks+1 }->wx X (f (.int i t) (.int j u)) Q E s) :
  iT X f (D3 λi j=>.int (g i j)):=by
 intro B s J H x y v u Q I r a h;obtain⟨i,j,rfl,rfl,q⟩:=h;obtain⟨t,rfl⟩:=r;obtain⟨e,rfl⟩:=a;exact rule i j t e s _ _ ⟨.int (g i j),H,I.tok _,⟨_,rfl⟩,q⟩
theorem Ek{f:Value->Value->Sem Value}{g:Int->Int->Bool}
  (rule:∀(i j:Int)(t u:Tok)(s:Shared)(Q:VP)(E:VP),Q (.bool (g i j)) s->wx X (f (.int i t) (.int j u)) Q E s) :
  iT X f (D3 λi j=>.bl (g i j)):=by
 intro B s J H x y v u Q I r a h;obtain⟨i,j,rfl,rfl,q⟩:=h;obtain⟨t,rfl⟩:=r;obtain⟨e,rfl⟩:=a;exact rule i j t e s _ _ ⟨.bl (g i j),H,I,rfl,q⟩
def N5(i j:Int):Prop:=0≤j/\j≤1000000/\i.natAbs < 2 ^ 64
def Qk(i j:Int):Prop:=(-(2 ^ 64) < i/\i < 2 ^ 64)\/(-(2 ^ 64) < j/\j < 2 ^ 64)
theorem G6:iT X (binaryOp .Add) (D3 λi j=>.int (i+j)):=KA λ_ _ _ _ _ _ _ q=>add_int q
theorem G0:iT X (binaryOp .Sub) (D3 λi j=>.int (i-j)):=KA λ_ _ _ _ _ _ _ q=>sub_int q
theorem G3:iT X (binaryOp .Mod) (rI (λ_ j=>0 < j) λi j=>.int (i % j)):=LI λi j _ _ _ _ _ h q=>by have I:(0:Int) < j:=h;exact mod_int' (by lia) (by rw[Int.fmod_eq_emod_of_nonneg i (by lia)];exact q)
theorem G2:iT X (binaryOp .Pow) (rI N5 λi j=>.int (i ^ j.toNat)):=LI λ_ _ _ _ _ _ _ h q=>pow_int_small h.1 h.2.1 h.2.2 q
theorem O4{f:Value->Sem Value}{g:Int->Int}
  (rule:∀(i:Int)(t:Tok)(s:Shared)(Q:VP)(E:VP),Q (.int (g i) s.toks) { s with toks:=s.toks+1 }->wx X (f (.int i t)) Q E s) :
  NY X f (rU λi=>.int (g i)):=by
 intro B s J H x v Q I r h;obtain⟨i,rfl,q⟩:=h;obtain⟨t,rfl⟩:=r;exact rule i t s _ _ ⟨.int (g i),H,I.tok _,⟨_,rfl⟩,q⟩
theorem Gf:NY X (unaryOp .USub) (rU λi=>.int (-i)):=O4 λ_ _ _ _ _ q=>neg_int q
end
noncomputable def JX:V->V->Bool
 | .non,.non=>true | .non,.int _=>true | .int _,.non=>true | .non,.bl _=>true | .bl _,.non=>true | .non,.str _=>true | .str _,.non=>true
 | .int _,.int _=>true | .bl _,.bl _=>true | .str _,.str _=>true | .byt _,.byt _=>true
 | .int _,.str _=>true | .str _,.int _=>true | .bl _,.str _=>true | .str _,.bl _=>true
 |_,_=>false
def Pu:R2:=λx y H Q=>JX x y=true/\Q (.bl (decide (x=y))) H
def Pt:R2:=λx y H Q=>JX x y=true/\Q (.bl (!decide (x=y))) H
theorem ym{i j:Int}:decide (V.int i=V.int j)=(i == j):=by rw[mq];simp
theorem B9:decide (V.bl i=V.bl z)=(i == z):=by rw[mq];simp
theorem yk:decide (V.str i=V.str z)=(i == z):=by rw[mq];simp
theorem yn:decide (V.byt i=V.byt z)=(i.toList == z.toList):=by rw[mq];cases i;cases z;simp
section
variable{X:Cx}{a b c:Expr}{ta tb tc:TE}{G:Pos}
theorem br(I:Inv X B J H s)(q:Q (.bl k) H)(e:k=i):EP X B J Q (.bool i) s:=by subst e;exact⟨.bl k,H,I,rfl,q⟩
theorem Bb:iT X (compareOp .Eq) Pu:=by
 intro B s J H x y v u Q I n r h;obtain⟨e,q⟩:=h;cases x with
 |non=>
  cases n;cases y with
  |non=>cases r;exact C6 (br I q (by simp))
  |bl j=>cases r;exact C4 (br I q (by simp))
  |int j=>obtain⟨a,rfl⟩:=r;exact C5 (br I q (by simp))
  |str j=>obtain⟨a,rfl⟩:=r;exact C7 (br I q (by simp))
  |_=>exact absurd (show false=true from e) bA
 |bl i=>
  cases n;cases y with
  |non=>cases r;exact C1 (br I q (by simp))
  |bl j=>cases r;exact eq_bool (br I q B9)
  |str j=>obtain⟨a,rfl⟩:=r;exact CS (br I q (by simp))
  |_=>exact absurd (show false=true from e) bA
 |int i=>
  obtain⟨t,rfl⟩:=n;cases y with
  |non=>cases r;exact C3 (br I q (by simp))
  |int j=>obtain⟨a,rfl⟩:=r;exact eq_int (br I q ym)
  |str j=>obtain⟨a,rfl⟩:=r;exact CT (br I q (by simp))
  |_=>exact absurd (show false=true from e) bA
 |str i=>
  obtain⟨t,rfl⟩:=n;cases y with
  |non=>cases r;exact C8 (br I q (by simp))
  |bl j=>cases r;exact CU (br I q (by simp))
  |int j=>obtain⟨a,rfl⟩:=r;exact CV (br I q (by simp))
  |str j=>obtain⟨a,rfl⟩:=r;exact eq_str (br I q yk)
  |_=>exact absurd (show false=true from e) bA
 |byt i=>
  obtain⟨t,rfl⟩:=n;cases y with
  |byt j=>obtain⟨a,rfl⟩:=r;exact PySem.W.eq_bytes (br I q yn)
  |_=>exact absurd (show false=true from e) bA
 |_=>cases y<;>exact absurd (show false=true from e) bA
theorem A':iT X (compareOp .NotEq) Pt:=by
 intro B s J H x y v u Q I n r h;obtain⟨e,q⟩:=h;cases x with
 |non=>
  cases n;cases y with
  |non=>cases r;exact Dd (br I q (by simp))
  |bl j=>cases r;exact Db (br I q (by simp))
  |int j=>obtain⟨a,rfl⟩:=r;exact Dc (br I q (by simp))
  |str j=>obtain⟨a,rfl⟩:=r;exact De (br I q (by simp))
  |_=>exact absurd (show false=true from e) bA
 |bl i=>
  cases n;cases y with
  |non=>cases r;exact C9 (br I q (by simp))
  |bl j=>cases r;exact ne_bool (br I q (dz not B9))
  |str j=>obtain⟨a,rfl⟩:=r;exact CW (br I q (by simp))
  |_=>exact absurd (show false=true from e) bA
 |int i=>
  obtain⟨t,rfl⟩:=n;cases y with
  |non=>cases r;exact C_ (br I q (by simp))
  |int j=>obtain⟨a,rfl⟩:=r;exact ne_int (br I q (dz not ym))
  |str j=>obtain⟨a,rfl⟩:=r;exact CY (br I q (by simp))
  |_=>exact absurd (show false=true from e) bA
 |str i=>
  obtain⟨t,rfl⟩:=n;cases y with
  |non=>cases r;exact Dg (br I q (by simp))
  |bl j=>cases r;exact CZ (br I q (by simp))
  |int j=>obtain⟨a,rfl⟩:=r;exact C0 (br I q (by simp))
  |str j=>obtain⟨a,rfl⟩:=r;exact ne_str (br I q (dz not yk))
  |_=>exact absurd (show false=true from e) bA
 |byt i=>
  obtain⟨t,rfl⟩:=n;cases y with
  |byt j=>obtain⟨a,rfl⟩:=r;exact PySem.W.ne_bytes (br I q (dz not yn))
  |_=>exact absurd (show false=true from e) bA
 |_=>cases y<;>exact absurd (show false=true from e) bA
theorem Km:iT X (compareOp .Lt) (D3 λi j=>.bl (decide (i < j))):=Ek λ_ _ _ _ _ _ _ q=>lt_int q
theorem Kn:iT X (compareOp .LtE) (D3 λi j=>.bl (decide (i≤j))):=Ek λ_ _ _ _ _ _ _ q=>le_int q
theorem Kq:iT X (compareOp .Gt) (D3 λi j=>.bl (decide (j < i))):=Ek λ_ _ _ _ _ _ _ q=>gt_int q
theorem Kr:iT X (compareOp .GtE) (D3 λi j=>.bl (decide (j≤i))):=Ek λ_ _ _ _ _ _ _ q=>ge_int q
theorem yZ:iT X (compareOp .In) (λx y H Q=>∃i j,x=.str i/\y=.str j/\Q (.bl (!(mn j i 0 j.length 1).isEmpty)) H):=by intro B s J H x y v u Q I r a h;obtain⟨i,j,rfl,rfl,q⟩:=h;obtain⟨t,rfl⟩:=r;obtain⟨e,rfl⟩:=a;exact in_str (br I q rfl)
theorem G4:iT X (compareOp .Is) (λx y H Q=>y=.non/\Q (.bl (decide (x=.non))) H):=by
 intro B s J H x y v u Q I r a h;obtain⟨rfl,q⟩:=h;cases a;refine is_none_gen (br I q ?_);cases x<;>first
  |(cases r;rfl)
  |(obtain⟨t,rfl⟩:=r;rfl)
theorem rT:iT X (compareOp .NotIn) (λx y H Q=>∃i j,x=.str i/\y=.str j/\Q (.bl (!(!(mn j i 0 j.length 1).isEmpty))) H):=by intro B s J H x y v u Q I r a h;obtain⟨i,j,rfl,rfl,q⟩:=h;obtain⟨t,rfl⟩:=r;obtain⟨e,rfl⟩:=a;exact notIn_str (br I q rfl)
theorem xY{o:CmpOp}{r:R2}(f:iT X (compareOp o) r)(n:PE X a ta)(k:PE X b tb)(m:behindInMarks o b=false):PE X (.Compare a [o] [b] G) (Gq r ta tb):=by intro B s J H Q I h;exact wpAny_Compare1 (Ii n k I h λv u p x y H2 e c t q=>f B p J H2 x y v u Q e c t q) m
noncomputable def Fz(t:TE):TT:=λJ H Q=>t J H λx H'=>∃k,x=.bl k/\Q k H'
theorem xW(o:iT X (compareOp i) r)(p:PE X a ta)(q:PE X b tb)(d:behindInMarks i b=false):PT X (.Compare a [i] [b] G) (Fz (Gq r ta tb)):=by
 intro B s J H Q I h;refine wpAny_isTrue_Compare1 (cR (p B s J H _ I h) fun v P ⟨x,j,f,S,w⟩=>cR (q B P J j _ f w) fun u A ⟨y,H2,m,F,g⟩=>
  cR (o B A J H2 x y v u _ m S F g) λc C ⟨z,n,t,K,k,e,l⟩=>?_) d
 subst e;cases K;exact m_ ⟨n,t,l⟩
def Iw(K:FG)(x:V)(H:Hp)(k:Bool):Prop:=
 match x with
 | .non=>k=false
 | .bl b=>k=b
 | .int i=>k=(i != 0)
 | .str y=>y.length≤sizeLine/\k=((y.length:Int) != 0)
 | .byt y=>y.size≤sizeLine/\k=((y.size:Int) != 0)
 | .ref p=>(∃xs,iA K H p xs/\k=!xs.isEmpty)\/(∃xs,pL K H p xs/\k=!xs.isEmpty)\/∃v,H p=some (.dK v)/\k=!v.isEmpty
 |_=>False
theorem vm(r:KV i z):(!z.isEmpty)=!i.isEmpty:=by cases r<;>rfl
theorem n4(r:bi xs i):(!i.toArray.isEmpty)=!xs.isEmpty:=by cases r<;>simp
theorem jZ:(sizeLine:Nat) < 2 ^ 63:=by rw[kl];decide
theorem Gh:NZ X (λx H Q=>∃k,Iw X.K x H k/\Q k H):=by
 intro B s J H x v Q I f h;obtain⟨k,e,q⟩:=h;have j:=jZ;have o:sizeLine=16777216:=kl;cases x with
 |non=>cases f;have a:k=false:=e;subst a;exact truthy_none ⟨H,I,q⟩
 |bl b=>cases f;have a:k=b:=e;subst a;exact m_ ⟨H,I,q⟩
 |int i=>obtain⟨t,rfl⟩:=f;have a:k=(i != 0):=e;subst a;exact PySem.P.truthy_int ⟨H,I,q⟩
 |str y=>obtain⟨t,rfl⟩:=f;obtain⟨g,a⟩:y.length≤sizeLine/\k=((y.length:Int) != 0):=e;subst a;exact PySem.P.truthy_str (by lia) ⟨H,I.tok _,q⟩
 |byt y=>obtain⟨t,rfl⟩:=f;obtain⟨g,a⟩:y.size≤sizeLine/\k=((y.size:Int) != 0):=e;subst a;exact PySem.W.truthy_bytes (by lia) ⟨H,I.tok _,q⟩
 |ref p=>
  cases f;have a:(∃xs,iA X.K H p xs/\k=!xs.isEmpty)\/(∃xs,pL X.K H p xs/\k=!xs.isEmpty)\/∃n,H p=some (.dK n)/\k=!n.isEmpty:=e;rcases a with ⟨xs,c,a⟩|⟨xs,c,a⟩|⟨n,c,a⟩
  .subst a;obtain⟨w,r,u,z⟩:=I.list c;have l:=r.length;exact wpAny_truthy_list u.isList (by simp only[bB];lia) ⟨H,I.tok _,by rw[n4 r];exact q⟩
  .subst a;obtain⟨w,r,u,z⟩:=I.tuple c;have l:=r.length;exact truthy_tuple u (by simp only[bB];lia) ⟨H,I.tok _,by rw[n4 r];exact q⟩
  .subst a;obtain⟨z,S,d,r,m⟩:n.length≤sizeLine/\(p == sysModules)=false/\∃d,KV n d/\s.heap.DictOf (bJ X.p X.w) p d:=I.h p _ c;have l:n.length=d.length:=Paired.length r;exact wpAny_truthy_dict S m (by lia) ⟨H,I.tok _,by rw[vm r];exact q⟩
 |_=>exact(show False from e).elim
theorem AU(n:PE X a ta)(f:∀w,isTrue a X.e w=(do let v <- w;standAt a.pos;holding [v] (truthy v))) :
  PT X a (λJ H Q=>ta J H λx H'=>∃k,Iw X.K x H' k/\Q k H'):=by
 intro B s J H Q I h;exact isTrue_plain (cR (n B s J H _ I h) λv b z=>by obtain⟨x,j,e,r,q⟩:=z;exact Gh B b J j x v Q e r q) (f _)
theorem u9:iT X (binaryOp .Add) (λx y H Q=>∃i j,x=.str i/\y=.str j/\i.length+j.length≤sizeLine/\Q (.str (i++j)) H):=by intro B s J H x y v u Q I r a h;obtain⟨i,j,rfl,rfl,z,q⟩:=h;obtain⟨t,rfl⟩:=r;obtain⟨e,rfl⟩:=a;exact add_str (λe tk=>⟨.str (i++j),H,I.tok _,⟨_,rfl⟩,q⟩) z
theorem vals1(r:bi [x] q):∃u,q=[u]/\RelV x u:=by
 cases r with
 |cons h a=>cases a;exact⟨_,rfl,h⟩
theorem vals2(r:bi [x,y] q):∃u w,q=[u,w]/\RelV x u/\RelV y w:=by
 cases r with
 |cons h a=>
  cases a with
  |cons e s=>cases s;exact⟨_,_,rfl,h,e⟩
theorem zt(c:X.c=true):dc X (.builtin "max") (λxs H Q=>∃i j,xs=[.int i,.int j]/\Q (.int (if j > i then j else i)) H):=by
 intro B s J H xs q Q I r h;obtain⟨i,j,rfl,x⟩:=h;obtain⟨u,w,rfl,⟨t,rfl⟩,⟨e,rfl⟩⟩:=vals2 r;refine max_two_ints (I.o.hd c) λh' tk k=>⟨_,H,I.kept k,?_,x⟩
 by_cases a:j > i
 .rw [ai a,ai a];exact⟨_,rfl⟩
 .rw [ar a,ar a];exact⟨_,rfl⟩
theorem zr(c:X.c=true):dc X (.builtin "min") (λxs H Q=>∃i j,xs=[.int i,.int j]/\Q (.int (if j < i then j else i)) H):=by
 intro B s J H xs q Q I r h;obtain⟨i,j,rfl,x⟩:=h;obtain⟨u,w,rfl,⟨t,rfl⟩,⟨e,rfl⟩⟩:=vals2 r;refine min_two_ints (I.o.hd c) λh' tk k=>⟨_,H,I.kept k,?_,x⟩
 by_cases a:j < i
 .rw [ai a,ai a];exact⟨_,rfl⟩
 .rw [ar a,ar a];exact⟨_,rfl⟩
theorem pD:dc X (.type "int") (λxs H Q=>(∃i,xs=[.int i]/\Q (.int i) H)\/∃k,xs=[.bl k]/\Q (.int (if k then 1 else 0)) H):=by
 intro B s J H xs q Q I r h;rcases h with ⟨i,rfl,x⟩|⟨k,rfl,x⟩
 .obtain⟨u,rfl,t,rfl⟩:=vals1 r;exact call_int_int ⟨.int i,H,I,⟨_,rfl⟩,x⟩
 .obtain⟨u,rfl,a⟩:=vals1 r;cases a;exact call_int_bool ⟨.int (if k then 1 else 0),H,I.tok _,⟨_,rfl⟩,x⟩
theorem sF:dc X (.type "str") (λxs H Q=>∃i,xs=[.int i]/\i.natAbs.log2 < 1920/\Q (.str (toString i)) H):=by intro B s J H xs q Q I r h;obtain⟨i,rfl,z,x⟩:=h;obtain⟨u,rfl,t,rfl⟩:=vals1 r;exact PySem.P.str_of_int z ⟨.str _,H,I.tok _,⟨_,rfl⟩,x⟩
end
structure ObjM(h:Heap)(x dx C:Addr)(mA:SV):Prop where
 obj:h.get? x=some (iW C dx)
 ns:h.Ns1 dx mA
 ne:dx≠x
set_option tactic.hygienic true in
theorem pf(n:h.Ns1 dx mA):∃d,h.get? dx=some d/\∀name,pU name d=some (mA name):=by
 obtain⟨o,es,p,b,s,f,_,m⟩:=n;refine⟨o,b,λname=>?_⟩;have e:=m name;unfold nsFind findBy at e;rw[<- wy]at e;unfold pU;rw[s];dsimp only;split
 .rename_i y q;rw[q]at e;exact dz some e
 .rename_i q;rw[q]at e;have a:es.toList.any (·.refKey)=false:=by
   rw[List.any_eq_false];intro y c;obtain⟨z,t,k⟩:=f y (Array.mem_toList_iff.mp c);simp[DictEntry.refKey,k]
  have x:¬es.toList.any (·.refKey)=true:=by rw[a];exact bA
  rw[ar x];exact dz some e
variable{C:Addr}
theorem ObjM.look(I:ObjM h x dx C mA):∃o,PySem.W.InstAt h x (iW C dx) C (some o)/\∀name,pU name o=some (mA name):=
 let ⟨o,a,l⟩:=pf I.ns
 ⟨o,⟨I.obj,rfl,rfl,a⟩,l⟩
section
variable{prog:Program}{w:World}{A:Around}{E:VP}{s:Shared}{K:FG}{x dx C f:Addr}{mA:SV}{name:Str}{v:Value}
theorem EK(X:K.In s.heap)(I:ObjM s.heap x dx C mA)(g:pV K C name=true)(k:pW K C=true)
  (n:cS K (.ref C) name=some none) (f:mA name=some v) (a:zO v=true) (h:Q v { s with toks:=s.toks+1 }) :
  wpAny (model prog w) A (getAttr (.ref x) name i) Q E s:=by
 obtain⟨o,e,l⟩:=I.look;exact PySem.W.get_value X e (uG g).1 (zW k n rfl (by rw[l,f])) a h
theorem BQ(X:K.In s.heap)(I:ObjM s.heap x dx C mA)(g:pV K C name=true)
  (e:cS K (.ref C) name=some (some (.ref f))) (t:uz K (.ref f)=true) (v:mA name=none) (h:Q (.ref f,[.ref x]) s) :
  wpAny (model prog w) A (getMethod (.ref x) name i) Q E s:=by
 obtain⟨o,a,l⟩:=I.look;exact PySem.W.method_fn X a (uG g).1 (uG g).2 e (jU.mp t) (by show(pU name o).map (·.isSome)=some false;rw[l,v];rfl) h
theorem DV(X:K.In s.heap)(I:ObjM s.heap x dx C mA)
  (u:cS K (.ref C) "__setattr__"=some (some (.builtin "object.__setattr__"))) (q:zQ K C=true) (g:uC K C name=some none) (t:pW K C=true)
  (i:q7 mA N) (z:N.length≤sizeLine)
  (h:∀h',ObjM h' x dx C (λy=>if y=name then some v else mA y)->iX dx s.heap h'->Q () { s with heap:=h',toks:=s.toks+2 }) :
  wpAny (model prog w) A (setAttr (.ref x) name v) Q E s:=by
 obtain⟨F,k,H⟩:=I.look;refine zH X k u (PySem.W.osa_open (s:={ s with toks:=s.toks+1 }) (r:=none) X k q g λb=>?_);obtain⟨l,m,d⟩:=PySem.W.any_some t;have j:s.heap.get? x=some ⟨.ref C,some dx,.plain,#[]⟩:=I.obj;refine ae (aJ (ae (ae (xc j (ae (mm (s:={ s with toks:=s.toks+1 }) (uy X m) ?_))))));rw[d];refine aJ (a:=some dx) (ae (aJ (ae ?_)));refine wpAny_nsSet1 (s:={ s with toks:=s.toks+1 }) I.ns λh' n e=>?_;obtain⟨S,f,p,o,D,c⟩:=n.count (PySem.Within.cons name v i);refine ae (xl o (by rw[D];exact xf (bN c (by rw[aS];lia))) ?_);exact aJ (h _ ⟨(e.2 _ (bZ I.ne)).trans I.obj,n,I.ne⟩ e)
theorem Br(X:K.In s.heap)(m:zN K C=true)
  (hi:cS K (.ref C) "__init__"=some (some (.ref f))) (x:PySem.W.typeIn K (.ref f)=some (.type "function"))
  (h:codeAny (model prog w) (A.under (.builtin "type.__call__" ⟨.ref C::i,kw⟩)) (.call (.ref f) ⟨.ref (s.heap.objs.size+1)::i,kw⟩) (PySem.W.InitBack (s.heap.objs.size+1) R)
   { s with heap:=(s.heap.push hP).push (iW C s.heap.objs.size) }) :
  codeAny (model prog w) A (.call (.ref C) ⟨i,kw⟩) R s:=by
 obtain⟨a,g,d,t,os⟩:=s;exact PySem.W.make_core (PySem.W.makes_of X m) (jT X hi) (λe=>PySem.W.bind_fn X e x) (.inl rfl) h
end
noncomputable def fw(f:Str)(v:V):List (Str×V)->List (Str×V)
 | []=>[(f,v)]
 |(g,x)::r=>if g=f then (g,v)::r else (g,x)::fw f v r
theorem lx(f g:Str)(v:V):∀fs:List (Str×V),(fw f v fs).lookup g=if g=f then some v else fs.lookup g
 | []=>by
  show cF g [(f,v)]=_;by_cases h:g=f
  .have b:(g == f)=true:=jU.mpr h;simp only[cF,b,ai h]
  .have b:(g == f)=false:=ls.mpr h;simp only[cF,b,ar h]
 |(k,x)::r=>by
  have i:=lx f g v r;rw[show fw f v ((k,x)::r)=(if k=f then (k,v)::r else (k,x)::fw f v r) from rfl];by_cases a:k=f
  .rw [ai a];by_cases h:g=k
   .have b:(g == k)=true:=jU.mpr h;simp only[cF,b,ai (h.trans a)]
   .have b:(g == k)=false:=ls.mpr h;simp only[cF,b,ar (λe:g=f=>h (e.trans a.symm))]
  .rw [ar a];by_cases h:g=k
   .have b:(g == k)=true:=jU.mpr h;simp only[cF,b,ar (λe:g=f=>a (h.symm.trans e))]
   .have b:(g == k)=false:=ls.mpr h;simp only[cF,b];exact i
theorem lf(f:Str)(v:V):∀fs:List (Str×V),f ∈ (fw f v fs).map (·.1)/\∀g,g ∈ fs.map (·.1)->g ∈ (fw f v fs).map (·.1)
 | []=>⟨by simp[fw],λg h=>by simp at h⟩
 |(k,x)::r=>by
  obtain⟨i,s⟩:=lf f v r;rw[show fw f v ((k,x)::r)=(if k=f then (k,v)::r else (k,x)::fw f v r) from rfl];by_cases a:k=f
  .rw [ai a];subst a;exact⟨by simp,λg h=>by simpa using h⟩
  .rw [ar a];refine⟨?_,λg h=>?_⟩
   .rw [aU];exact a_ _ i
   .rw [aU]at h ⊢;rcases av.mp h with e|e
    .exact av.mpr (.inl e)
    .exact a_ _ (s g e)
theorem ly(f:Str)(v:V):∀fs:List (Str×V),(fw f v fs).length≤fs.length+1
 | []=>by simp[fw]
 |(k,x)::r=>by
  have i:=ly f v r;rw[show fw f v ((k,x)::r)=(if k=f then (k,v)::r else (k,x)::fw f v r) from rfl];by_cases h:k=f
  .rw [ai h,aS,aS];lia
  .rw [ar h,aS,aS];lia
theorem iB.some_of{v:V}{o:OV}(r:iB (some v) o):∃u,o=some u/\RelV v u:=by
 cases o with
 |none=>exact(show False from r).elim
 |some u=>exact⟨u,rfl,r⟩
theorem iB.none_of{o:OV}(r:iB none o):o=none:=by
 cases o with
 |none=>rfl
 |some u=>exact(show False from r).elim
variable{v:V}
theorem pu(r:RelV v u):zO u=true:=by
 cases v with
 |non=>cases (show u=Value.none from r);rfl
 |bl b=>cases (show u=Value.bool b from r);rfl
 |int i=>obtain⟨t,e⟩:=(show ∃t,u=Value.int i t from r);cases e;rfl
 |str x=>obtain⟨t,e⟩:=(show ∃t,u=Value.str x t from r);cases e;rfl
 |byt b=>obtain⟨t,e⟩:=(show ∃t,u=Value.bytes b t from r);cases e;rfl
 |flt b=>obtain⟨t,e⟩:=(show ∃t,u=Value.float b t from r);cases e;rfl
 |ref a=>cases (show u=Value.ref a from r);rfl
 |ty n=>cases (show u=Value.type n from r);rfl
section
variable{P:Program}{w:World}{H H':Hp}{h h':Heap}{a C dx:Addr}{fs fs':List (Str×V)}
theorem mX(o:iP P w H h)(e:H a=some (.ins C dx fs)):∃mA,ObjM h a dx C mA/\(∀f,iB (fs.lookup f) (mA f))/\q7 mA (fs.map (·.1))/\fs.length≤1000/\H dx=some (.own a):=by obtain⟨d,z,x,b,mA,n,r,q⟩:=(show cj P w H h a (.ins C dx fs) from o a _ e);exact⟨mA,⟨b,n,x⟩,r,q,z,d⟩
end
structure Cls(K:FG)(C:Addr):Prop where
 pg:pV K C Str.empty=true
 hd:pW K C=true
 po:zQ K C=true
 sa:cS K (.ref C) "__setattr__"=some (some (.builtin "object.__setattr__"))
theorem Cls.get(c:Cls K C)(f:Str):pV K C f=true:=c.pg
def jm(K:FG)(C:Addr)(f:Str):Prop:=cS K (.ref C) f=some none
theorem jm.taker(n:jm K C f):uC K C f=some none:=by unfold uC;rw[show cS K (.ref C) f=some none from n];rfl
structure Con(K:FG)(C:Addr)(f:Str)(v:V)(u:Value):Prop where
 at_:cS K (.ref C) f=some (some u)
 rel:RelV v u
 get:pX K u "__get__"=some none
 cp:PySem.W.copiedNames.contains f=false
structure Meth(K:FG)(C:Addr)(m:Str)(f:Addr):Prop where
 at_:cS K (.ref C) m=some (some (.ref f))
 fn:uz K (.ref f)=true
 kp:eY K (.ref f)=true
section
variable{X:Cx}{B:PN}{J:St}{H:Hp}{s:Shared}{a C dx:Addr}{fs:List (Str×V)}{f:Str}{v:V}{A:Around}{E:VP}
theorem n6{b:Bool}{Q:VP}(I:Inv X B J H s)(e:H a=some (.ins C dx fs))(c:Cls X.K C)(n:jm X.K C f)(l:fs.lookup f=some v)
  (h:∀u s',Inv X B J H s'->RelV v u->Q u s'):wpAny (model X.p X.w) A (getAttr (.ref a) f b) Q E s:=by
 obtain⟨mA,k,r,_,_,_⟩:=mX I.h e;obtain⟨u,m,x⟩:=iB.some_of (v:=v) (o:=mA f) (by rw[<- l];exact r f);exact EK I.kIn k (c.get f) c.hd n m (pu x) (h u _ (I.tok _) x)
theorem io{m:Str}{g:Addr}{p:Sem Bool}{Q:Value×LV->Shared->Prop}(I:Inv X B J H s)(e:H a=some (.ins C dx fs))(c:Cls X.K C)(k:Meth X.K C m g)(l:fs.lookup m=none)
  (h:Q (.ref g,[.ref a]) s):wpAny (model X.p X.w) A (getMethod (.ref a) m p) Q E s:=by
 obtain⟨mA,x,r,_,_,_⟩:=mX I.h e;have n:mA m=none:=iB.none_of (by rw[<- l];exact r m);exact BQ I.kIn x (c.get m) k.at_ k.fn n h
theorem nM(I:Inv X B J H s)(e:H a=some (.ins C dx fs))(c:Cls X.K C)(n:jm X.K C f)(F:fs.length < 1000)(l:RelV y u)
  (h:∀s',Inv X B J (upd H a (.ins C dx (fw f y fs))) s'->Q () s'):wpAny (model X.p X.w) A (setAttr (.ref a) f u) Q E s:=by
 obtain⟨mA,m,r,w,_,t⟩:=mX I.h e;have j:(fs.map (·.1)).length≤sizeLine:=by rw[dL,kl];lia
 refine DV I.kIn m c.sa c.po n.taker c.hd w j λh' k S=>h _ ?_;have d:∃o,h'.get? dx=some o:=let ⟨o,_,_,p,_⟩:=k.ns;⟨o,p⟩
 refine I.write (x:=a) (e:=dx) (by rw[e];exact True.intro) (.inr t) (λb q v z=>(S.2 b v).trans z) d ?_;refine⟨by rw[aM m.ne];exact t,?_,m.ne,k.obj,_,k.ns,λg=>?_,λg i=>?_⟩
 .have:=ly f y fs;lia
 .show iB ((fw f y fs).lookup g) (if g=f then some u else mA g);rw[lx];by_cases q:g=f
  .rw [ai q,ai q];exact l
  .rw [ar q,ar q];exact r g
 .by_cases q:g=f
  .rw [q];exact(lf f y fs).1
  .refine (lf f y fs).2 g (w g λz=>i ?_);show(if g=f then some u else mA g)=none;rw[ar q];exact z
theorem Inv.made(I:Inv X B J H s):Inv X B J (upd (upd H s.heap.objs.size (.own (s.heap.objs.size+1))) (s.heap.objs.size+1) (.ins C s.heap.objs.size []))
  { s with heap:=(s.heap.push hP).push (iW C s.heap.objs.size) }:=by
 have h:(s.heap.push hP).get? s.heap.objs.size=some hP:=eF s.heap rfl;have k:((s.heap.push hP).push (iW C s.heap.objs.size)).get? (s.heap.objs.size+1)=some (iW C s.heap.objs.size):=by have:=eF (s.heap.push hP) (o:=iW C s.heap.objs.size) rfl;rwa [uJ]at this
 have f:(s.heap.push hP).Ns s.heap.objs.size (λ_=>none):=⟨hP,#[],_,h,rfl,(λe c=>absurd c (by simp)),λ_=>rfl⟩;have x:=I.laid (a:=s.heap.objs.size) (o:=.own (s.heap.objs.size+1)) (h':=s.heap.push hP) (t':=s.toks) (λb u q=>bM _ q) (aw _) ⟨_,h⟩;refine x.laid (a:=s.heap.objs.size+1) (o:=.ins C s.heap.objs.size []) (t':=s.toks) (λb u q=>bM _ q) (w8 (uJ _ _)) ?_;have n:s.heap.objs.size≠s.heap.objs.size+1:=bO (h7 _);refine⟨by rw[aM n,aX],dn _,n,k,λ_=>none,(Heap.Ns1.of_empty f).at λo q=>bM _ q,λ_=>True.intro,λy m=>absurd rfl m⟩
theorem yx(b:attributeBase e f i (eval e i)=eval e i)
  (h:wpAny (model prog w) A (eval e i) (λo x=>wpAny (model prog w) A (getAttr o f true) Q E x) E s):wpAny (model prog w) A (eval (.Attribute e f G) i) Q E s:=
 Attribute_any_ h (by rw[arm_eval_Attribute,b])
end
def MT(K:FG)(ta:TE)(f:Str):TE:=λJ H Q=>ta J H λx j=>∃a C dx fs v,x=.ref a/\j a=some (.ins C dx fs)/\Cls K C/\jm K C f/\fs.lookup f=some v/\Q v j
def M3(K:FG)(ta tv:TE)(f:Str):TS:=λD J H=>tv J H λy j=>ta J j λx H2=>∃a C dx fs,x=.ref a/\H2 a=some (.ins C dx fs)/\Cls K C/\jm K C f/\fs.length < 1000 /\
 D.nx J (upd H2 a (.ins C dx (fw f y fs)))
def Lv(X:Cx)(o:Operator)(r:V->V->Hp->VK->Prop):Prop:=
 ∀(B:PN)(s:Shared)(J:St)(H:Hp)(x y:V)(u v:Value)(Q:VK),Inv X B J H s->RelV x u->RelV y v->r x y H Q->wx X (inplaceOp o u v) (EP X B J Q) X.xe s
def DY(K:FG)(ta tv:TE)(r:V->V->Hp->VK->Prop)(f:Str):TS:=λD J H=>ta J H λx j=>∃a C dx fs v,x=.ref a/\j a=some (.ins C dx fs)/\Cls K C/\jm K C f/\fs.lookup f=some v /\
 tv J j λy H2=>r v y H2 λz h=>∃d fs',h a=some (.ins C d fs')/\fs'.length < 1000/\D.nx J (upd h a (.ins C d (fw f z fs')))
section
variable{X:Cx}{o e value:Expr}{f:Str}{G pos' tpos:Pos}{ta tv:TE}
theorem GV(t:PE X e ta)(r:attributeBase e f X.e (eval e X.e)=eval e X.e):PE X (.Attribute e f G) (MT X.K ta f):=by intro B s J H Q I h;refine yx r (cR (t B s J H _ I h) λu w z=>?_);obtain⟨x,j,k,d,a,C,dx,fs,v,ex,m,c,n,l,q⟩:=z;subst ex;obtain rfl:u=Value.ref a:=d;exact n6 k m c n l λi g b p=>⟨v,j,b,p,q⟩
theorem GJ(r:PE X o ta)(v:PE X value tv)(t:swapsWith value (some (.Attribute o f pos')) G.line X.e=pure false):PS X (.Assign [.Attribute o f pos'] value G) (M3 X.K ta tv f):=by intro B s J H D I h;refine xH (cR (v B s J H _ I h) λu i ⟨y,j,e,g,q⟩=>cR (r B i J j _ e q) λp S z=>?_) t;obtain⟨x,H2,k,w,a,C,dx,fs,ex,m,c,n,l,d⟩:=z;subst ex;obtain rfl:p=Value.ref a:=w;exact nM k m c n l g λF b=>⟨J,_,b,d⟩
theorem yV(i:PE X o ta)(S:PE X value tv)(p:Lv X N rd):PS X (.AugAssign (.Attribute o f tpos) N value G) (DY X.K ta tv rd f):=by
 intro B s J H D I h;refine wpAny_AugAssign_AttributeAny (cR (i B s J H _ I h) λK Z k=>?_);obtain⟨x,j,b,L,a,C,dx,fs,v,ex,g,c,n,l,q⟩:=k;subst ex;obtain rfl:K=Value.ref a:=L;refine n6 b g c n l λu R m E=>cR (S B R J j _ m q) λV T ⟨y,H2,r,M,P⟩=>cR (p B T J H2 v y u V _ r E M P) λw4 s4 k=>?_
 obtain⟨z,W,t,Q,w,fs',e,F,A⟩:=k;exact nM t e c n F Q λs5 d=>⟨J,_,d,A⟩
def Nc:V->V->Hp->VK->Prop:=λx y H Q=>∃i j,x=.int i/\y=.int j/\Q (.int (i+j)) H
theorem HC:Lv X .Add Nc:=by rintro B s J H x y u v Q I r a ⟨i,j,rfl,rfl,q⟩;obtain⟨t,rfl⟩:=(show ∃t,u=Value.int i t from r);obtain⟨h,rfl⟩:=(show ∃h,v=Value.int j h from a);exact wo ⟨.int (i+j),H,I.tok _,⟨_,rfl⟩,q⟩
end
section
variable{X:Cx}{B:PN}{J:St}{H:Hp}{s:Shared}{A:Around}{E:VP}{Q:VP}{c:Value}{b:Bool}
inductive TyOf(K:FG)(H:Hp):V->Value->Prop where
 |non:TyOf K H .non (.type "NoneType")
 |bl (x:Bool):TyOf K H (.bl x) (.type "bool")
 |int (i:Int):TyOf K H (.int i) (.type "int")
 |str (x:Str):TyOf K H (.str x) (.type "str")
 |flt (x:UInt64):TyOf K H (.flt x) (.type "float")
 |lst {a:Addr}{xs:List V} (e:H a=some (.lst xs)):TyOf K H (.ref a) (.type "list")
 |frz {a:Addr}{o:Obj}{xs:List V} (e:H a=some (.frz o (.lst xs))):TyOf K H (.ref a) (.type "list")
 |tup {a:Addr}{xs:List V} (e:H a=some (.tup xs)):TyOf K H (.ref a) (.type "tuple")
 |dK {a:Addr}{kvs:List (dX×V)} (e:H a=some (.dK kvs)):TyOf K H (.ref a) (.type "dict")
 |dT {a:Addr}{kvs:List (List dX×V)} (e:H a=some (.dT kvs)):TyOf K H (.ref a) (.type "dict")
 |ins {a C dx:Addr}{fs:List (Str×V)} (e:H a=some (.ins C dx fs)) (cl:Cls K C) (ha:cS K (.ref C) "__class__"=some (some (.builtin "object.__class__")))
   (hn:pX K (.builtin "object.__class__") "__get__"=some (some (.builtin "getset_descriptor.__get__"))) (htk:uD K (.builtin "object.__class__")=some true)
   (hm:ng K C (.type "object")=some true):TyOf K H (.ref a) (.ref C)
theorem fD(k:Inv X B J H s)(r:RelV x u)(ty:TyOf X.K H x t)(e:bp X.K t c=some b)(h:∀tk,Q (.bool b) { s with toks:=tk }) :
  wpAny (model X.p X.w) A (call (.builtin "isinstance") [u,c]) Q E s:=by
 cases ty with
 |non=>cases (show u=Value.none from r);exact dA uE k.kIn True.intro e (λz=>nomatch z) h
 |bl y=>cases (show u=Value.bool y from r);exact dA PySem.W.kitx_bool k.kIn True.intro e (λz=>nomatch z) h
 |int i=>obtain⟨t,q⟩:=(show ∃t,u=Value.int i t from r);cases q;exact dA PySem.W.kitx_int k.kIn True.intro e (λz=>nomatch z) h
 |str y=>obtain⟨t,q⟩:=(show ∃t,u=Value.str y t from r);cases q;exact dA PySem.W.kitx_str k.kIn True.intro e (λz=>nomatch z) h
 |flt y=>obtain⟨t,q⟩:=(show ∃t,u=Value.float y t from r);cases q;exact dA PySem.W.kitx_float k.kIn True.intro e (λz=>nomatch z) h
 | @lst a xs f=>cases (show u=Value.ref a from r);obtain⟨_,_,n,_,I⟩:=(show cj X.p X.w H s.heap a (.lst xs) from k.h a _ f);exact dA nj k.kIn ⟨_,I,rfl⟩ e (λz=>nomatch z) h
 | @frz a K xs f=>cases (show u=Value.ref a from r);obtain⟨_,_,_,n,_,I⟩:=(show cj X.p X.w H s.heap a (.frz K (.lst xs)) from k.h a _ f);exact dA nj k.kIn ⟨_,I,rfl⟩ e (λz=>nomatch z) h
 | @tup a xs f=>cases (show u=Value.ref a from r);obtain⟨_,_,_,p⟩:=(show cj X.p X.w H s.heap a (.tup xs) from k.h a _ f);obtain⟨o,I,h2,_⟩:=p;exact dA zS k.kIn ⟨o,I,h2.1⟩ e (λz=>nomatch z) h
 | @dK a v f=>cases (show u=Value.ref a from r);obtain⟨_,_,D,_,p⟩:=(show cj X.p X.w H s.heap a (.dK v) from k.h a _ f);obtain⟨o,es,g,I,h2,_⟩:=p;exact dA zP k.kIn ⟨o,I,h2.1⟩ e (λz=>nomatch z) h
 | @dT a v f=>cases (show u=Value.ref a from r);obtain⟨_,_,xs,_,o,es,g,I,h2,_⟩:=(show cj X.p X.w H s.heap a (.dT v) from k.h a _ f);exact dA zP k.kIn ⟨o,I,h2.1⟩ e (λz=>nomatch z) h
 | @ins a C dx fs f l j F m S=>cases (show u=Value.ref a from r);obtain⟨mA,w,_⟩:=mX k.h f;obtain⟨P,d,_⟩:=w.look;exact dA (PySem.W.kitx_own (l.get _) l.hd j F m S) k.kIn d e (λz=>nomatch z) h
end
structure Room(k:Nat)(A:Around):Prop where
 hd:A.handled=none
 dp:A.depth+3 * k+5 < recursionLimit
 un:A.units+16 * k+200 < cLine
variable{k:Nat}
theorem Room.deeper(r:Room (k+1) A)(e:Env):Room k (A.deeper e):=
 ⟨r.hd,by have:=r.dp;show A.depth+1+3 * k+5 < _;lia,by have:=r.un;show A.units+3+16 * k+200 < _;lia⟩
variable{kw:List (Str×Value)}
theorem nV:(A.under (.builtin "type.__call__" ⟨.ref C::q,kw⟩)).depth=A.depth+1:=by first|rfl|simp[Around.under,Code.weight,Code.isCreation,Code.isGuard,Code.isCaller,we,qm,guardIds]
theorem vc:(A.under (.builtin "type.__call__" ⟨.ref C::q,kw⟩)).units=A.units+1:=by first|rfl|simp[Around.under,Code.cUnits,we,qm]
theorem Room.make(r:Room (k+1) A)(C:Addr)(q:LV)(kw:List (Str×Value)):Room k (A.under (.builtin "type.__call__" ⟨.ref C::q,kw⟩)):=
 ⟨r.hd,by have:=r.dp;rw[nV];lia,by have:=r.un;rw[vc];lia⟩
theorem Room.depth(r:Room k A):A.depth < recursionLimit:=by have:=r.dp;lia
noncomputable def JJ:TA:=λ_ H Q=>Q [] H
noncomputable def JP(ta:TE)(tr:TA):TA:=λJ H Q=>ta J H λx j=>tr J j λxs H2=>Q (x::xs) H2
section
variable{X:Cx}{e:Expr}{es:Ab}{te:TE}{t:TA}{G:Pos}
theorem ij:PA X [] JJ:=λ_ _ _ _ H Q I h=>qB ⟨[],H,I,.nil,h⟩
theorem d4(k:PE X e te)(r:PA X es t)(f:starEach (e::es) X.e=(false,eval e X.e)::starEach es X.e:=by rfl):PA X (e::es) (JP te t):=by intro G B s J H Q I h;rw[f];show wpAny _ _ (spliced ((false,eval e X.e)::backTo G (starEach es X.e))) _ _ s;refine mw (cR (k B s J H _ I h) λu v z=>?_);obtain⟨x,j,a,m,b⟩:=z;exact cR (r G B v J j _ a b) λq d z=>by obtain⟨xs,H2,n,p,c⟩:=z;exact⟨x::xs,H2,n,.cons m p,c⟩
def ML(t:TA):TE:=λJ H Q=>t J H λxs j=>xs.length≤sizeLine/\∀p,j p=none->Q (.ref p) (upd j p (.tup xs))
def MQ(t:TA):TE:=λJ H Q=>t J H λxs j=>xs.length≤sizeLine/\∀p,j p=none->Q (.ref p) (upd j p (.lst xs))
theorem A5 {i} (h:PA X es t):PE X (.Tuple es i G) (ML t):=by intro B s J H Q I k;refine wpAny_Tuple_spliced (cR (h G B s J H _ I k) λq a c=>?_);obtain⟨xs,j,n,r,z,x⟩:=c;refine⟨by rw[<- r.length];exact z,?_⟩;have f:j a.heap.objs.size=none:=n.h.fresh (aw _);refine⟨.ref a.heap.objs.size,upd j a.heap.objs.size (.tup xs),n.laid (t':=a.toks) (λb u e=>bM _ e) (aw _) ?_,rfl,x _ f⟩;exact⟨z,q,r,ou.new _ _⟩
theorem A7(h:PA X es t):PE X (.List es G) (MQ t):=by intro B s J H Q I k;refine wpAny_List_spliced (cR (h G B s J H _ I k) λq a c=>?_);obtain⟨xs,j,n,r,z,x⟩:=c;refine⟨by rw[<- r.length];exact z,?_⟩;have f:j a.heap.objs.size=none:=n.h.fresh (aw _);refine⟨.ref a.heap.objs.size,upd j a.heap.objs.size (.lst xs),n.laid (t':=a.toks) (λb u e=>bM _ e) (aw _) ?_,rfl,x _ f⟩;exact⟨z,q,0,r,eF _ rfl⟩
end
noncomputable abbrev Sp:=List V->Hp->VK->XK->Prop
noncomputable abbrev zC:=List Env->Hp->Shared->XK->VP
structure Env0(P:Program)(w:World)(K:FG)(mg:SV)(base:Heap)(A:Around)(outer:List Env)(s:Shared)(H:Hp):Prop where
 frames:A.frames=some outer
 mod:Mod K mg base
 bs:∀b o,base.get? b=some o->s.heap.get? b=some o/\H b=none
 bsz:base.objs.size≤s.heap.objs.size
 funs:s.heap.FunFrames base outer
 frf:∀b ∈ iV outer,H b=none
 h:iP P w H s.heap
 bare:AllBare s.gens
def CE(o:List Env)(P:Program)(w:World)(H:Hp)(s:Shared)(Q:VK)(u:Value)(s':Shared):Prop:=
 ∃v H',s'.os=s.os/\AllBare s'.gens/\Un (iV o) [] H H' s.heap s'.heap/\iP P w H' s'.heap/\RelV v u/\Q v H'
def CR(CX:zC)(o:List Env)(P:Program)(w:World)(H:Hp)(s:Shared)(Q:VK)(E:XK)(r:Result)(s':Shared):Prop:=
 match r with
 | .ok (.ret u)=>CE o P w H s Q u s'
 | .ok _=>False
 | .error e=>CX o H s E e s'
structure FnOk(P:Program)(w:World)(K:FG)(mg:SV)(base:Heap)(CX:zC)(k:Nat)(f:Addr)(fd:FuncData)(ps:LS)(sp:Sp):Prop where
 len:∀vs H Q E,sp vs H Q E->vs.length=ps.length
 run:∀(A:Around)(outer:List Env)(s:Shared)(H:Hp)(args:Args)(us:LV)(vs:List V)(Q:VK)(E:XK),Room k A->Env0 P w K mg base A outer s H->BindsTo s fd args (ps.zip us)->bi vs us->sp vs H Q E ->
  codeAny (model P w) A (.call (.ref f) args) (CR CX outer P w H s Q E) s
theorem FnOk.imp(F:FnOk P w K mg base CX k f fd ps sp)
  (h:∀v H Q E,i v H Q E->sp v H Q E):FnOk P w K mg base CX k f fd ps i:=
 ⟨λv H Q E x=>F.len v H Q E (h _ _ _ _ x),λA o s H a q v Q E r e b c n=>F.run A o s H a q v Q E r e b c (h _ _ _ _ n)⟩
theorem Env0.make(e:Env0 P w K mg base A i s H)(C:Addr)(q:LV)(kw:List (Str×Value)) :
  Env0 P w K mg base (A.under (.builtin "type.__call__" ⟨.ref C::q,kw⟩)) i s H:=⟨by first|exact e.frames|(simpa[Around.under,Code.envs,qm,pushEnvs] using e.frames),e.mod,e.bs,e.bsz,e.funs,e.frf,e.h,e.bare⟩
section
variable{X:Cx}{B:PN}{J:St}{H:Hp}{s s':Shared}
theorem Inv.env0(I:Inv X B J H s):Env0 X.p X.w X.K X.g X.b X.A X.k s H:=
 ⟨I.o.frames,I.o.mod,I.bs,bN I.o.bsz I.sz,I.stack,I.stkFree,I.h,I.bare⟩
theorem Inv.after(I:Inv X B J H s)(h:CE X.k X.p X.w H s Q u s'):EP X B J Q u s':=by obtain⟨v,H',os,a,un,o,r,q⟩:=h;obtain⟨e,g,d,t,x⟩:=s';obtain rfl:x=s.os:=os;exact⟨v,H',I.call (h':=e) (g':=g) (d':=d) (t':=t) (ch:=[]) un o a (λb z=>absurd z (by simp)),r,q⟩
end
noncomputable def JQ(sp:Sp)(dvs:List V)(E:XK)(t:TA):TE:=λJ H Q=>t J H λv j=>sp (v++dvs) j Q E
def Aw(C:Addr)(m:Str)(sp:Sp)(dvs:List V)(E:XK)(ta:TE)(t:TA):TE:=λJ H Q=>ta J H λx j=>∃a dx fs,x=.ref a/\j a=some (.ins C dx fs)/\fs.lookup m=none /\
 t J j λv H2=>sp (x::(v++dvs)) H2 Q E
def JL(C:Addr)(sp:Sp)(dvs:List V)(E:XK)(t:TA):TE:=λJ H Q=>t J H λs j=>∀x dx,j x=none->j dx=none->dx≠x ->
 sp (.ref x::(s++dvs)) (upd (upd j dx (.own x)) x (.ins C dx [])) (λv H2=>v=.non/\Q (.ref x) H2) E
def Binds(K:FG)(fd:FuncData)(ps:LS)(ds:LV):Prop:=
 ∀(s:Shared)(q:LV),K.In s.heap->(q++ds).length=ps.length->BindsTo s fd ⟨q,[]⟩ (ps.zip (q++ds))
theorem Binds.all(h:∀q:LV,q.length=ps.length->bindArgs fd ⟨q,[]⟩=pure (ps.zip q)):Binds K fd ps []:=λs q _ l=>by rw[dZ]at l ⊢;exact .of_eq (h q l)
def ka(CX:zC)(X:Cx)(E:XK):Prop:=∀(B:PN)(J:St)(H:Hp)(s:Shared)(e:Value)(s':Shared),Inv X B J H s->CX X.k H s E e s'->X.xe e s'
section
variable{X:Cx}{CX:zC}{k:Nat}{f C:Addr}{fd:FuncData}{ps:LS}{sp:Sp}{dvs:List V}{ds:LV}{E:XK}{x m:Str}{p G apos:Pos}{e o:Expr}{es:Ab}{ta:TE}{t:TA}
set_option tactic.hygienic true in
theorem u3(F:FnOk X.p X.w X.K X.g X.b CX k f fd ps sp)(c:Room k X.A)(b:Binds X.K fd ps ds)(d:bi dvs ds)(m:ka CX X E)
  (I:Inv X B J H s) (r:bi i q) (h:sp (i++dvs) H Q E):wx X (call (.ref f) q) (EP X B J Q) X.xe s:=by
 have a:bi (i++dvs) (q++ds):=r.append d;have n:(q++ds).length=ps.length:=by rw[<- a.length];exact F.len _ _ _ _ h
 refine hI (hJ (F.run X.A X.k s H ⟨q,[]⟩ (q++ds) (i++dvs) Q E c I.env0 (b s q I.kIn n) a h) λr s' x=>?_);cases r with
 |error e=>exact m B J H s e s' I x
 |ok l=>
  cases l with
  |ret u=>exact I.after x
  |next=>exact False.elim x
  |brk=>exact False.elim x
  |cont=>exact False.elim x
theorem rO(F:FnOk X.p X.w X.K X.g X.b CX k f fd ps sp)(i:Room k X.A)(g:Gl X x)(u:X.g x=some (.ref f))(w:eY X.K (.ref f)=true)(c:Binds X.K fd ps ds)(m:bi dvs ds)(y:ka CX X E)
  (b:PA X (e::es) t) (d:(x == ("__debug__":Str))=false:=by decide) (v:starEach (e::es) X.e=(false,eval e X.e)::starEach es X.e:=by rfl) (l:(backTo G (starEach es X.e)).any (·.1)=false:=by rfl) :
  PE X (.Call (.Name x p) (e::es) [] G) (JQ sp dvs E t):=by
 intro B s J H Q I h;refine na (jw I g u ?_ d);refine nk (h₀:=X.b) I.o.mod.kin w (cR (b G B s J H _ I h) λq o z=>?_) v l;obtain⟨S,j,n,r,a⟩:=z;refine⟨n.kIn,?_⟩;exact u3 F i c m y n r a
theorem Ed(P:PE X o ta)(c:Cls X.K C)(w:Meth X.K C m f)(F:FnOk X.p X.w X.K X.g X.b CX k f fd ps sp)(A:Room k X.A)(S:Binds X.K fd ps ds)(K:bi dvs ds)(L:ka CX X E)(y:PA X (e::es) t)
  (b:starEach (e::es) X.e=(false,eval e X.e)::starEach es X.e:=by rfl) (p:(backTo G (starEach es X.e)).any (·.1)=false:=by rfl)
  (D:eval (.Call (.Attribute o m apos) (e::es) [] G) X.e=(do
   let i <- eval o X.e
   standAt apos.atName
   let (f,first) <- holding [i] (getMethod i m N)
   callWith G f first (backTo G (starEach (e::es) X.e)) (backToKw G (keywordEach [] X.e))):=by rfl) :
  PE X (.Call (.Attribute o m apos) (e::es) [] G) (Aw C m sp dvs E ta t):=by
 intro B s J H Q I h;refine pY (pl:=N) (cR (P B s J H _ I h) λu T z=>?_) D;obtain⟨x,j,v,R,a,dx,fs,ex,g,l,n⟩:=z;subst ex;obtain rfl:u=Value.ref a:=R;refine io v g c w l ?_;refine nk (first:=[.ref a]) (h₀:=X.b) I.o.mod.kin w.kp (cR (y G B T J j _ v n) λq W z=>?_) b p;obtain⟨V,H2,d,r,M⟩:=z;refine⟨d.kIn,?_⟩;exact u3 (q:=.ref a::q) (i:=.ref a::V) F A S K L d (.cons rfl r) M
theorem A6(p:PE X o ta)(c:Cls X.K C)(b:Meth X.K C m f)(F:FnOk X.p X.w X.K X.g X.b CX k f fd ps sp)(v:Room k X.A)(t:Binds X.K fd ps ds)(d:bi dvs ds)(g:ka CX X E)
  (w:eval (.Call (.Attribute o m apos) [] [] G) X.e=(do
   let i <- eval o X.e
   standAt apos.atName
   let (f,first) <- holding [i] (getMethod i m N)
   callWith G f first (backTo G (starEach [] X.e)) (backToKw G (keywordEach [] X.e))):=by rfl) :
  PE X (.Call (.Attribute o m apos) [] [] G) (Aw C m sp dvs E ta JJ):=by
 intro B s J H Q I h;refine pY (pl:=N) (cR (p B s J H _ I h) λu S z=>?_) w;obtain⟨x,j,n,y,a,dx,fs,ex,r,l,e⟩:=z;subst ex;obtain rfl:u=Value.ref a:=y;refine io n r c b l ?_;exact zV (first:=[.ref a]) n.kIn b.kp (u3 (q:=[.ref a]) (i:=[.ref a]) F v t d g n (.cons rfl .nil) e)
structure Mk(K:FG)(C f:Addr):Prop where
 makes:zN K C=true
 init:cS K (.ref C) "__init__"=some (some (.ref f))
 fn:uz K (.ref f)=true
 kp:eY K (.ref C)=true
set_option tactic.hygienic true in
theorem AN(M:Mk X.K C f)(F:FnOk X.p X.w X.K X.g X.b CX k f fd ps sp)(g:Room (k+1) X.A)(p:Binds X.K fd ps ds)(d:bi dvs ds)
  (j:ka CX X E) (I:Inv X B J H s) (r:bi i q)
  (h:∀x dx,H x=none->H dx=none->dx≠x->sp (.ref x::(i++dvs)) (upd (upd H dx (.own x)) x (.ins C dx [])) (λv H2=>v=.non/\Q (.ref x) H2) E) :
  wx X (call (.ref C) q) (EP X B J Q) X.xe s:=by
 have b:=h (s.heap.objs.size+1) s.heap.objs.size (I.h.fresh (qO _)) (I.h.fresh (aw _)) (bO (h7 _));have n:=Inv.made (C:=C) I;have c:bi (V.ref (s.heap.objs.size+1)::(i++dvs)) (Value.ref (s.heap.objs.size+1)::(q++ds)):=.cons rfl (r.append d);have w:(Value.ref (s.heap.objs.size+1)::q++ds).length=ps.length:=by have e:=c.length;rw[F.len _ _ _ _ b]at e;exact e.symm
 refine hI (Br (f:=f) I.kIn M.makes M.init (jU.mp M.fn) (hJ (F.run _ X.k _ _ ⟨Value.ref (s.heap.objs.size+1)::q,[]⟩ (Value.ref (s.heap.objs.size+1)::(q++ds)) _ _ E (g.make C q [])
  (n.env0.make C q []) (p _ (Value.ref (s.heap.objs.size+1)::q) n.kIn w) c b) λr s' a=>?_))
 cases r with
 |error e=>exact j B J _ _ e s' n a
 |ok l=>
  cases l with
  |ret u=>obtain⟨v,H',m,z,t,y⟩:=n.after a;subst t;exact⟨z,⟨V.ref (s.heap.objs.size+1),H',m,rfl,y⟩⟩
  |next=>exact False.elim a
  |brk=>exact False.elim a
  |cont=>exact False.elim a
theorem Ee(M:Mk X.K C f)(F:FnOk X.p X.w X.K X.g X.b CX k f fd ps sp)(u:Room (k+1) X.A)(g:Gl X x)(w:X.g x=some (.ref C))(c:Binds X.K fd ps ds)(m:bi dvs ds)(i:ka CX X E)
  (b:PA X (e::es) t) (d:(x == ("__debug__":Str))=false:=by decide) (v:starEach (e::es) X.e=(false,eval e X.e)::starEach es X.e:=by rfl) (l:(backTo G (starEach es X.e)).any (·.1)=false:=by rfl) :
  PE X (.Call (.Name x p) (e::es) [] G) (JL C sp dvs E t):=by
 intro B s J H Q I h;refine na (jw I g w ?_ d);refine nk (h₀:=X.b) I.o.mod.kin M.kp (cR (b G B s J H _ I h) λq y z=>?_) v l;obtain⟨o,j,n,r,a⟩:=z;refine⟨n.kIn,?_⟩;exact AN M F u c m i n r a
end
section
variable{X:Cx}{CX:zC}{k:Nat}{f C:Addr}{fd:FuncData}{ps ks:LS}{sp:Sp}{E:XK}{x m:Str}{p G apos kpos:Pos}{e o:Expr}{es:Ab}{kws:List Keyword}{te ta:TE}{t tk:TA}{nm:Option Str}
structure KBinds(K:FG)(fd:FuncData)(ps ks:LS)(g:LV->LV->LV)(gV:List V->List V->List V):Prop where
 to:∀(s:Shared)(us ws:LV),K.In s.heap->(g us ws).length=ps.length->BindsTo s fd ⟨us,ks.zip ws⟩ (ps.zip (g us ws))
 rel:∀{vs:List V}{us:LV}{zs:List V}{ws:LV},bi vs us->bi zs ws->bi (gV vs zs) (g us ws)
variable{g:LV->LV->LV}{gV:List V->List V->List V}
end
structure FnScope(N P:LS)(sc:Scope):Prop where
 kind:sc.kind=.function
 co:sc.isCoroutine=false
 gen:sc.isGenerator=false
 nd:N.Nodup
 pre:N.take P.length=P
 par:∀x ∈ P,sc.names.lookup x=some .local\/sc.names.lookup x=some .cell
 nofree:∀y ∈ sc.names,y.2≠.free
theorem pH{kindOf:Str->Option NameKind}{x:Str}:∀{b:List (Str×Value)}{m:SV},(∀v,(x,v) ∉ b)->bindL kindOf b m x=m x
 | [],_,_=>rfl
 |(n,v)::r,m,h=>by
  unfold bindL;rw[pH λw a=>h w (a_ _ a)];split
  .have:x≠n:=by rintro rfl;exact h v aZ
   simp[this]
  .rfl
theorem pJ{kindOf:Str->Option NameKind}{x:Str}:∀{b:List (Str×Value)}{m:SV},(∀v,(x,v) ∉ b)->bindC kindOf b m x=m x
 | [],_,_=>rfl
 |(n,v)::r,m,h=>by
  unfold bindC;rw[pJ λw a=>h w (a_ _ a)];split
  .rfl
  .have:x≠n:=by rintro rfl;exact h v aZ
   simp[this]
theorem pI{kindOf:Str->Option NameKind}{x:Str}{v:Value}:∀{P:LS}{s:LV}{i:Nat}{m:SV},P.Nodup->P[i]? = some x->s[i]? = some v->kindOf x=some .local ->
  bindL kindOf (P.zip s) m x=some v
 | [],_,_,_,_,h,_,_=>by simp at h
 |_::_,[],_,_,_,_,h,_=>by simp at h
 |p::P,w::s,0,m,n,I,h2,k=>by simp at I h2;subst I;subst h2;show bindL kindOf ((p,w)::P.zip s) m p=_;unfold bindL;rw[pH λv a=>(fk.mp n).1 (mD a).1,ai k];simp
 |p::P,w::s,i+1,m,n,I,h2,k=>by show bindL kindOf ((p,w)::P.zip s) m x=_;unfold bindL;exact pI (i:=i) (fk.mp n).2 (by simpa using I) (by simpa using h2) k
theorem pK{kindOf:Str->Option NameKind}{x:Str}{v:Value}:∀{P:LS}{s:LV}{i:Nat}{m:SV},P.Nodup->P[i]? = some x->s[i]? = some v->kindOf x≠some .local ->
  bindC kindOf (P.zip s) m x=some v
 | [],_,_,_,_,h,_,_=>by simp at h
 |_::_,[],_,_,_,_,h,_=>by simp at h
 |p::P,w::s,0,m,n,I,h2,k=>by simp at I h2;subst I;subst h2;show bindC kindOf ((p,w)::P.zip s) m p=_;unfold bindC;rw[pJ λv a=>(fk.mp n).1 (mD a).1,ar k];simp
 |p::P,w::s,i+1,m,n,I,h2,k=>by show bindC kindOf ((p,w)::P.zip s) m x=_;unfold bindC;exact pK (i:=i) (fk.mp n).2 (by simpa using I) (by simpa using h2) k
noncomputable def start(N:LS)(v:List V):St:=v.map some++List.replicate (N.length-v.length) none
noncomputable def lX(CX:zC)(P:Program)(w:World)(K:FG)(mg:SV)(base:Heap)(N:LS)(q:Str)(h:Scope)(f:Addr)(d:Value)(A:Around)(u:List Env)(s:Shared)(H:Hp)(E:XK):Cx where
 p:=P
 w:=w
 K:=K
 g:=mg
 b:=base
 A:=A.deeper (envOfC q h s.heap.objs.size f d)
 N:=N
 z:=s
 y:=H
 e:=envOfC q h s.heap.objs.size f d
 o:=u
 k:=envOfC q h s.heap.objs.size f d::u
 ex:=[]
 c:=true
 fn:=λ_=>true
 pn:=[]
 xe:=λe s'=>wpAny (model P w) (A.deeper (envOfC q h s.heap.objs.size f d)) (leaving (envOfC q h s.heap.objs.size f d) e) (λ_ x=>CX u H s E e x) (λa x=>CX u H s E a x) s'
variable{x:Str}
theorem uq{sc:Scope}(h:sc.names.lookup x=some .cell):∃c,(cellsFrom n sc.names []).lookup x=some c:=by have q:=uH sc.names n [] (.inl h);exact wD.mp q
theorem pr{CX:zC}{P:Program}{w:World}{K:FG}{mg:SV}{base:Heap}{N ps:LS}{l:Str}{o:Scope}{f:Addr}{D:Value}{A:Around}{t:List Env}{s M:Shared}{H:Hp}{E:XK}{q:LV}{F:List V}
  (S:FnScope N ps o) (R:A.handled=none) (d:Env0 P w K mg base A t s H) (Z:F.length=ps.length) (r:bi F q)
  (x:InCallC s s.heap.objs.size (bindL (envOfC l o s.heap.objs.size f D).kindOf (ps.zip q) λ_=>none) (cellsFrom (s.heap.objs.size+1) o.names []) (bindC (envOfC l o s.heap.objs.size f D).kindOf (ps.zip q) λ_=>none) M) :
  Inv (lX CX P w K mg base N l o f D A t s H E) [] (start N F) H M:=by
 have T:ps.length≤N.length:=by have:=dz eo S.pre;rw[cG]at this;lia
 obtain⟨I,tk,rfl,G⟩:=x.done;have j:∀b:Addr,b ∉ (lX CX P w K mg base N l o f D A t s H E).ex:=fun b z=>absurd (show b ∈ ([]:List Addr) from z) (by simp);refine⟨⟨d.mod,S.kind,rfl,rfl,aw _,fun y z c I h2=>?_,fun y g=>?_,fun y c _ h=>?_,fun _=>R,Around.frames_deeper d.frames,.inr ⟨rfl,rfl⟩,fun b z=>absurd z (j b),d.bs,d.bsz,fun b _ _=>j b,fun b z=>absurd z (j b),d.funs,d.frf⟩,
  rfl,d.bare,Un.kept G,⟨_,x.toInCall.ns,λi y v I h2 X=>?_⟩,λy c h=>⟨_,x.cell y c h⟩,d.h.fresh (aw _),λy c h=>?_,λp B=>absurd (show p ∈ ([]:PN) from B) (by simp),d.h.kept G,?_⟩
 .exact name_of_addr x.apart (nc I) (nc h2)
 .have g:o.names.lookup y=some .cell\/o.names.lookup y=some .free:=g;rcases g with g|g
  .exact uq g
  .exact absurd rfl (S.nofree _ (nc g))
 .exact qQ (x.above y c (nc h))
 .have hi:i < F.length:=by
   unfold start at h2;by_cases hi:i < F.length
   .exact hi
   .rw [gp (by simpa using hi)]at h2;rw[qL]at h2;split at h2<;>cases h2
  have Q:F[i]? = some v:=by
   unfold start at h2;rw[d1 (by simpa using hi),jr]at h2;cases e:F[i]? with
   |none=>rw[e]at h2;cases h2
   |some a=>rw[e]at h2;cases h2;rfl
  obtain⟨u,L,W⟩:=r.get Q;have B:ps[i]? = some y:=by rw[<- S.pre,jt (by lia)];exact I
  have C:ps.Nodup:=by rw[<- S.pre];exact S.nd.sublist (wM _ _)
  refine⟨u,W,?_⟩;rcases S.par y (dj B) with k|k
  .exact .inl ⟨k,pI C B L k⟩
  .obtain⟨c,e⟩:=uq (n:=s.heap.objs.size+1) k;refine .inr ⟨.inl k,c,e,?_⟩;have m:=x.cell y c e;rw[pK C B L (by show o.names.lookup y≠_;rw[k];decide)]at m;exact m
 .exact d.h.fresh (qQ (x.above y c (nc h)))
 .unfold start;show _=N.length;rw[aN,dL,gn];lia
set_option tactic.hygienic true in
theorem FK{CX:zC}{P:Program}{w:World}{K:FG}{mg:SV}{base:Heap}{k:Nat}{f:Addr}{name l:Str}{p:Arguments}{m:List Stmt}{c:Scope}{dV kV B pm d ct oc:Value}{an od:Option Addr}
  {W:Array (OV)}{N ps:LS}{sp:Sp} (lk:K.lookup f=some ⟨oc,od,.func (jS name l p m c dV kV B pm an d ct),W⟩) (M:pT K d l=true) (S:FnScope N ps c)
  (len:∀g H Q E,sp g H Q E->g.length=ps.length)
  (j:∀(A:Around) (a:List Env) (s:Shared) (H:Hp) (g:List V) (Q:VK) (E:XK),Room k (A.deeper (envOfC l c s.heap.objs.size f d))->sp g H Q E ->
   ∃t,gb (lX CX P w K mg base N l c f d A a s H E) m t/\t { nx:=λ_ H'=>Q .non H',rt:=Q } (start N g) H) :
  FnOk P w K mg base CX (k+1) f (jS name l p m c dV kV B pm an d ct) ps sp:=by
 refine⟨len,λA a s H args q g Q E R C hb r G=>?_⟩;have hl:=len _ _ _ _ G;have Z:K.In s.heap:=C.mod.kin.keeps λb o e=>(C.bs b o e).1;have T:s.heap.NoLimit:=C.mod.nolimit.keeps λb o e=>(C.bs b o e).1;have z:∀y ∈ ps.zip q,c.names.lookup y.1=some .local\/(c.names.lookup y.1=some .cell/\((cellsFrom (s.heap.objs.size+1) c.names []).lookup y.1).isSome=true):=λ⟨n,v⟩ hy=>by
  rcases S.par n (mD hy).1 with h|h
  .exact .inl h
  .exact .inr ⟨h,uH _ _ _ (.inl h)⟩
 refine xz R.depth (Z _ _ lk) rfl S.co S.gen rfl (zR Z M) (hb _ _ _ _ ?_);refine xG S.kind z λenv he s1 x=>?_;subst he;refine⟨T.keeps x.toInCall.keep,codeAny_func ?_⟩;obtain⟨t,ht,hq⟩:=j A a s H g Q E (R.deeper _) G;have I:Inv (lX CX P w K mg base N l c f d A a s H E) [] (start N g) H s1:=pr S R.hd C hl r x;refine bm (ht [] s1 (start N g) H _ I hq) (λfl s' F=>?_) λe s' F=>F;have D:∀{L:St}{H':Hp}{v:V}{u:Value},Inv (lX CX P w K mg base N l c f d A a s H E) [] L H' s'->RelV v u->Q v H'->CE a P w H s Q u s':=
  λ{L H' v u} i X h=>⟨v,H',i.os,i.bare,i.base,i.h,X,h⟩
 cases fl with
 |ret u=>obtain⟨v,L,H',i,X,h⟩:=F;exact D i X h
 |next=>obtain⟨L,H',i,h⟩:=F;exact D (v:=V.non) (u:=Value.none) i rfl h
 |brk=>obtain⟨_,_,_,h⟩:=F;exact False.elim h
 |cont=>obtain⟨_,_,_,h⟩:=F;exact False.elim h
section
variable{X:Cx}{x:Str}{p G:Pos}{e:Expr}{es:Ab}{t:TA}{id T:String}{r:List V->Hp->VK->Prop}
noncomputable def Oe(r:List V->Hp->VK->Prop)(t:TA):TE:=λJ H Q=>t J H λv j=>r v j Q
theorem i7(c:dc X (.builtin id) r)(g:Gl X x)(m:X.g x=none)(v:bootBuiltins x=some (.builtin id))(n:PA X (e::es) t)(f:x≠"__name__":=by decide)(d:(x == ("__debug__":Str))=false:=by decide)
  (k:starEach (e::es) X.e=(false,eval e X.e)::starEach es X.e:=by rfl) (l:(backTo G (starEach es X.e)).any (·.1)=false:=by rfl):PE X (.Call (.Name x p) (e::es) [] G) (Oe r t):=by
 intro B s J H Q I h;refine na (nX I g m v ?_ f d);exact Do (cR (n G B s J H _ I h) λq u z=>by obtain⟨i,j,a,w,b⟩:=z;exact c B u J j i q Q a w b) k l
theorem yY(c:dc X (.type T) r)(g:Gl X x)(m:X.g x=none)(v:bootBuiltins x=some (.type T))(n:PA X (e::es) t)(f:x≠"__name__":=by decide)(d:(x == ("__debug__":Str))=false:=by decide)
  (k:starEach (e::es) X.e=(false,eval e X.e)::starEach es X.e:=by rfl) (l:(backTo G (starEach es X.e)).any (·.1)=false:=by rfl):PE X (.Call (.Name x p) (e::es) [] G) (Oe r t):=by
 intro B s J H Q I h;refine na (nX I g m v ?_ f d);exact qz (cR (n G B s J H _ I h) λq u z=>by obtain⟨i,j,a,w,b⟩:=z;exact c B u J j i q Q a w b) k l
end
end L2
set_option tactic.hygienic true
namespace HT
open PySem PyProof.Rows
section
variable{prog:Program}{w:World}{A:Around}{E:VP}{s:Shared}
theorem Fa(j:IsTup s.heap t z.toArray)(g:IsTup s.heap b i.toArray)(v:z≠[])
  (I:i=[]->Q (.ref t) s) (h2:i≠[]->Q (.ref s.heap.objs.size) { s with heap:=s.heap.push { cls:=.type "tuple",data:=.seq (z++i).toArray } })
  (k:z.length+i.length≤sizeLine):wpAny (model prog w) A (binaryOp .Add (.ref t) (.ref b)) Q E s:=by
 obtain⟨⟨cls,m,N,u⟩,o,r,n,p⟩:=id j;obtain⟨⟨f,d,data2,l⟩,h,c,q,x⟩:=id g;simp only at r p c x;subst r p c x;have e:z.toArray++i.toArray=(z++i).toArray:=by simp
 by_cases a:i=[]
 .exact qX ⟨_,o,rfl⟩ ⟨_,h,rfl⟩ q8 qY qf qg (qh _ _)
   (tuple_addW1 t b z.toArray i.toArray n q m d u l (by simpa using v) (by simp[a])) ⟨o,h,I a⟩
 .refine qX ⟨_,o,rfl⟩ ⟨_,h,rfl⟩ q8 qY qf qg (qh _ _)
   (tuple_addW2 t b z.toArray i.toArray n q m d u l (by simpa using v) (by simpa using a) (by rw[bB,bB];exact k)) ⟨o,h,?_⟩
  rw[e];exact h2 a
noncomputable def dw(n d:Nat):Option Int->Nat
 |none=>d
 |some v=>if v < 0 then (v+(n:Int)).toNat else min v.toNat n
theorem GA(n d:Nat)(x:d≤n)(o:Option Int):dw n d o≤n:=by
 cases o with
 |none=>exact x
 |some v=>
  show(if v < 0 then (v+(n:Int)).toNat else min v.toNat n)≤n;by_cases h:v < 0
  .rw [ai h];lia
  .rw [ar h];exact Nat.min_le_right _ _
theorem yr(v:Int)(n d:Nat):(if v < 0 then max (v+(n:Int)) 0 else min v (n:Int))=((dw n d (some v):Nat):Int):=by
 show(if v < 0 then max (v+(n:Int)) 0 else min v (n:Int))=(((if v < 0 then (v+(n:Int)).toNat else min v.toNat n):Nat):Int);by_cases h:v < 0
 .simp only[ai h];lia
 .simp only[ar h];lia
theorem vH(lo hi:Option Int)(n:Nat):qc lo hi 1 (n:Int)=(((dw n 0 lo:Nat):Int),((dw n n hi:Nat):Int)):=by
 have I:¬((1:Int) < 0):=by lia
 unfold qc;simp only[I,gW];refine Prod.ext ?_ ?_
 .cases lo with
  |none=>rfl
  |some v=>exact yr v n 0
 .cases hi with
  |none=>rfl
  |some v=>exact yr v n n
theorem u6(i j:Nat):mh (i:Int) (j:Int) 1=j-i:=by
 unfold mh;have I:(1:Int) > 0:=by lia
 simp only[I,eG,Int.ediv_one];split<;>lia
theorem nL(p:IsPart v o)(h:Q o s):wpAny (model prog w) A (CQ v) Q E s:=by
 cases p with
 |none=>exact wl h
 |int i t=>exact slicePart_int h
theorem g5{l:Addr}{v u:Value}{lo hi:Option Int}{n:Nat}{Q:Int×Int×Nat->Shared->Prop}(a:s.heap.IsSliceOf l v u .none)(p:IsPart v lo)(e:IsPart u hi)
  (h:Q (((dw n 0 lo:Nat):Int),1,dw n n hi-dw n 0 lo) s):wpAny (model prog w) A (vO (.ref l) (pure (n:Int))) Q E s:=by
 obtain⟨os,o,c,d⟩:=id a;unfold vO CP;refine ae (ae (qW o d (x:=v) rfl (ae (qW o d (x:=u) rfl (ae (qW o d (x:=.none) rfl (aJ ?_)))))));refine ae (wl ?_);show wpAny _ _ (if ((1:Int) == 0)=true then _ else _) _ _ s;rw[ar (by decide)];refine ae (nL p (ae (nL e (ae (aJ ?_)))));show wpAny _ _ (match qc lo hi 1 (n:Int) with|(lo,hi)=>pure (lo,(1:Int),mh lo hi 1)) _ _ s;rw[vH lo hi n];show wpAny _ _ (pure (((dw n 0 lo:Nat):Int),(1:Int),mh ((dw n 0 lo:Nat):Int) ((dw n n hi:Nat):Int) 1)) _ _ s;rw[u6];exact aJ h
theorem AZ(xs:Array Value)(i k:Nat):((List.range k).filterMap λ(m:Nat)=>xs[((i:Int)+(m:Int) * 1).toNat]?).toArray=((xs.toList.drop i).take k).toArray:=by
 have e:(λ(m:Nat)=>xs[((i:Int)+(m:Int) * 1).toNat]?)=λm=>xs[i+m]?:=by
  funext m;have:((i:Int)+(m:Int) * 1).toNat=i+m:=by lia
  rw[this]
 rw[e];have:=pick_run xs i k
 rw[List.filterMap_map]at this;have h:((λx=>xs[x]?) ∘ λx=>i+x)=λm=>xs[i+m]?:=rfl;rw[h]at this;rw[this]
theorem kx{t l:Addr}{i:Array Value}{v u:Value}{lo hi:Option Int}{Q:VP}(x:IsTup s.heap t i)(e:s.heap.IsSliceOf l v u .none)(p:IsPart v lo)(f:IsPart u hi)
  (k:¬(dw i.size 0 lo=0/\dw i.size i.size hi=i.size))
  (h:Q (.ref s.heap.objs.size) { s with heap:=s.heap.push { cls:=.type "tuple",data:=.seq ((i.toList.drop (dw i.size 0 lo)).take (dw i.size i.size hi-dw i.size 0 lo)).toArray } })
  (z:i.size≤sizeLine):wpAny (model prog w) A (getItem (.ref t) (.ref l)) Q E s:=by
 have a:sizeOk (.seq ((i.toList.drop (dw i.size 0 lo)).take (dw i.size i.size hi-dw i.size 0 lo)).toArray):=by show((i.toList.drop (dw i.size 0 lo)).take (dw i.size i.size hi-dw i.size 0 lo)).toArray.size≤sizeLine;rw[bB,cG,eL,qE];lia
 have j:dw i.size i.size hi≤i.size:=GA _ _ (aw _) hi;obtain⟨os,o,c,d⟩:=id e;have T:s.TypeIs (.ref l) "slice":=⟨os,o,c⟩;unfold getItem;try with_reducible refine gJ ?_
 first|refine ae (aJ ?_)|skip
 refine ae (xt x.typeIs (by decide) ?_);refine ae (xE (name:=Str.ofString "__getitem__") x.typeIs hT
  (xh hT x.typeIs wn ?_ (wm _ _)))
 show wpAny _ _ (vN (.ref t) >>= _) _ _ s;refine ae (wj x ?_);refine ae (mP T ?_);rw[ai (by decide)];refine ae (g5 e p f ?_);have n:¬((((dw i.size 0 lo:Nat):Int) == 0 && (1:Int) == 1 && (dw i.size i.size hi-dw i.size 0 lo) == i.size)=true):=by intro q;rw[aC,aC]at q;have b:((dw i.size 0 lo:Nat):Int)=0:=eq_of_beq q.1.1;have r:dw i.size i.size hi-dw i.size 0 lo=i.size:=eq_of_beq q.2;exact k ⟨by lia,by lia⟩
 show wpAny _ _ (if (((dw i.size 0 lo:Nat):Int) == 0 && (1:Int) == 1 && (dw i.size i.size hi-dw i.size 0 lo) == i.size)=true then _ else _) _ _ s;rw[ar n,AZ];first
  |exact ae (m:=me _) (m9 (aJ ⟨_,rfl,aJ h⟩) a)
  |exact ae (m:=me _) (m9 (ae (aJ (aJ ⟨_,rfl,aJ h⟩))) a)
  |exact ae (ae (m:=me _) (m9 (aJ (aJ ⟨_,rfl,aJ h⟩)) a))
  |exact ae (ae (m:=me _) (m9 (aJ ⟨_,rfl,aJ h⟩) a))
end
end HT
set_option tactic.hygienic false
namespace L2
open PySem PySem.Spec PyProof.Rows
noncomputable abbrev TO:=St->Hp->(Option Int->Hp->Prop)->Prop
def PO(X:Cx)(e:Option Expr)(t:TO):Prop:=
 ∀(B:PN)(s:Shared)(J:St)(H:Hp)(Q:Option Int->Hp->Prop),Inv X B J H s->t J H Q ->
  wx X (evalPart e X.e) (λu s'=>∃o H',Inv X B J H' s'/\IsPart u o/\Q o H') X.xe s
noncomputable def DP:TO:=λ_ H Q=>Q none H
noncomputable def JH(t:TE):TO:=λJ H Q=>t J H λx j=>∃i,x=.int i/\Q (some i) j
section
variable{X:Cx}{e:Expr}{te:TE}{lo hi:Option Expr}{tl th:TO}{G p2:Pos}
theorem Ea:PO X none DP:=by intro B s J H Q I h;rw[xb];exact aJ ⟨none,H,I,.none,h⟩
theorem D_(h:PE X e te):PO X (some e) (JH te):=by
 intro B s J H Q I w;rw[evalPart_some];refine cR (h B s J H _ I w) λu k z=>?_
 obtain⟨x,j,a,r,n⟩:=z;obtain⟨i,rfl,q⟩:=n;obtain⟨t,rfl⟩:=r;exact⟨some i,j,a,.int i t,q⟩
def Fp(X:Cx)(r:V->Option Int->Option Int->Hp->VK->Prop):Prop:=
 ∀(B:PN)(s:Shared)(J:St)(H:Hp)(x:V)(v h u:Value)(lo hi:Option Int)(l:Addr)(Q:VK),Inv X B J H s->RelV x v->s.heap.IsSliceOf l h u .none->IsPart h lo->IsPart u hi->r x lo hi H Q ->
  ∃T id,typeLookup (.type T) "__getitem__"=pure (some (.builtin id))/\s.TypeIs v T/\wx X (getItem v (.ref l)) (EP X B J Q) X.xe s
theorem Fp.or(h:Fp X r)(h':Fp X i):Fp X (λx lo hi H Q=>r x lo hi H Q\/i x lo hi H Q):=by
 intro B s J H x v n k lo hi l Q I e a p u q;rcases q with q|q
 .exact h B s J H x v n k lo hi l Q I e a p u q
 .exact h' B s J H x v n k lo hi l Q I e a p u q
noncomputable def O8(r:V->Option Int->Option Int->Hp->VK->Prop)(te:TE)(tl th:TO):TE:=λJ H Q=>te J H λx j=>tl J j λl H2=>th J H2 λu h=>r x l u h Q
theorem tB(y:Fp X r)(w:PE X e te)(i:PO X lo tl)(S:PO X hi th):PE X (.Subscript e (.Slice lo hi none p2) G) (O8 r te tl th):=by
 intro B s J H Q I h;refine Subscript_ (cR (w B s J H _ I h) λv E z=>?_);obtain⟨x,j,c,D,P⟩:=z;refine wpAny_Slice (cR (i B E J j _ c P) λn L ⟨l,H2,m,F,A⟩=>cR (S B L J H2 _ m A) λk a z=>?_);obtain⟨u,f,t,K,C⟩:=z;rw[xb];refine aJ ?_;have p:Inv X B J f { a with heap:=a.heap.push { cls:=.type "slice",data:=.fields #[n,k,.none] } }:=t.kept (t':=a.toks) λb M q=>bM _ q
 obtain⟨T,id,d,o,g⟩:=y B { a with heap:=a.heap.push { cls:=.type "slice",data:=.fields #[n,k,.none] } } J f x v n k l u a.heap.objs.size Q p D (Heap.IsSliceOf.new ..) F K C;show wx X (subscriptTail e (.Slice lo hi none p2) v (.ref a.heap.objs.size)) (EP X B J Q) X.xe { a with heap:=a.heap.push { cls:=.type "slice",data:=.fields #[n,k,.none] } };exact mv (ops:=[.ref a.heap.objs.size,v]) o d g (by with_unfolding_all rfl)
def oX(xs:List V)(lo hi:Option Int):List V:=(xs.drop (HT.dw xs.length 0 lo)).take (HT.dw xs.length xs.length hi-HT.dw xs.length 0 lo)
theorem lE(xs:List V)(lo hi:Option Int):(oX xs lo hi).length≤xs.length:=by unfold oX;rw[cG,eL];lia
def M6(K:FG):V->Option Int->Option Int->Hp->VK->Prop:=λx lo hi H Q=>∃a xs,x=.ref a/\pL K H a xs /\
 ¬(HT.dw xs.length 0 lo=0/\HT.dw xs.length xs.length hi=xs.length)/\∀p,H p=none->Q (.ref p) (upd H p (.tup (oX xs lo hi)))
theorem AG:Fp X (M6 X.K):=by
 intro B s J H x v m d lo hi c Q I k e p u h;obtain⟨a,xs,rfl,n,w,q⟩:=h;cases k;obtain⟨i,r,t,z⟩:=I.tuple n;have l:i.toArray.size=xs.length:=by rw[bB];exact r.length.symm
 refine⟨"tuple",_,hT.lookup,t.typeIs,?_⟩;refine HT.kx t e p u (by rw[l];exact w) ?_ (by rw[l];exact z);rw[l];refine⟨.ref s.heap.objs.size,_,I.laid (t':=s.toks) (o:=.tup (oX xs lo hi)) (λb f q=>bM _ q) (aw _) ?_,rfl,q _ (I.h.fresh (aw _))⟩;exact⟨bN (lE xs lo hi) z,_,(r.drop (HT.dw xs.length 0 lo)).take (HT.dw xs.length xs.length hi-HT.dw xs.length 0 lo),ou.new _ _⟩
def Ka(K:FG):R2:=λx y H Q=>∃a b xs ys,x=.ref a/\y=.ref b/\pL K H a xs/\pL K H b ys/\xs≠[]/\xs.length+ys.length≤sizeLine /\
 (ys=[]->Q (.ref a) H)/\(ys≠[]->∀p,H p=none->Q (.ref p) (upd H p (.tup (xs++ys))))
theorem bi.nil_iff(r:bi xs q):q=[]↔xs=[]:=by
 cases r with
 |nil=>simp
 |cons _ _=>simp
theorem Ei:iT X (binaryOp .Add) (Ka X.K):=by intro B s J H x y v u Q I g j h;obtain⟨a,b,xs,ys,rfl,rfl,k,f,c,n,m,d⟩:=h;cases g;cases j;obtain⟨t,e,p,_⟩:=I.tuple k;obtain⟨i,r,p2,_⟩:=I.tuple f;refine HT.Fa p p2 (λz=>c (e.nil_iff.mp z)) (λz=>⟨.ref a,H,I,rfl,m (r.nil_iff.mp z)⟩) (λz=>?_) (by rw[<- e.length,<- r.length];exact n);refine⟨.ref s.heap.objs.size,_,I.laid (t':=s.toks) (o:=.tup (xs++ys)) (λb l q=>bM _ q) (aw _) ?_,rfl,d (λw=>z (r.nil_iff.mpr w)) _ (I.h.fresh (aw _))⟩;exact⟨by rw[aN];exact n,_,e.append r,ou.new _ _⟩
end
noncomputable def ya(n:Nat)(i:Int):Option Nat:=if 0≤i then (if i < n then some i.toNat else none) else if -(n:Int)≤i then some (i+n).toNat else none
variable{α:Type}
def atI(xs:List α)(i:Int):Option α:=(ya xs.length i).bind λj=>xs[j]?
variable{n:Nat}
theorem EA{i:Int}(h:ya n i=some z):seqIndex? i n=some z/\z < n/\-(n:Int)≤i/\i < n:=by
 unfold ya at h;by_cases x:0≤i
 .rw [ai x]at h;by_cases I:i < n
  .rw [ai I]at h;have e:i.toNat=z:=hU h;exact⟨by rw[seqIndex_of x I,e],by lia,by lia,I⟩
  .rw [ar I]at h;cases h
 .rw [ar x]at h;by_cases I:-(n:Int)≤i
  .rw [ai I]at h;have e:(i+n).toNat=z:=hU h;exact⟨by rw[seqIndex_neg (by lia) I,e],by lia,I,by lia⟩
  .rw [ar I]at h;cases h
theorem sJ{i:Int}(h:atI xs i=some v):∃j,seqIndex? i xs.length=some j/\xs[j]? = some v/\j < xs.length/\-(xs.length:Int)≤i/\i < xs.length:=by
 unfold atI at h;cases e:ya xs.length i with
 |none=>rw[e]at h;cases h
 |some j=>rw[e]at h;obtain⟨I,h2,x,a⟩:=EA e;exact⟨j,I,h,h2,x,a⟩
theorem atI_last(xs:List α)(v:α):atI (xs++[v]) (-1)=some v:=by
 have h:(xs++[v]).length=xs.length+1:=by simp
 have e:ya (xs++[v]).length (-1)=some xs.length:=by unfold ya;rw[h,ar (by decide),ai (by lia)];congr 1;lia
 unfold atI;rw[e];show(xs++[v])[xs.length]? = some v;simp
def kO(b:Expr):Prop:=∀o i,subscripted b false o i=operate [o,i] (getItem o i)
def CG(X:Cx)(r:R2):Prop:=
 ∀(value l:Expr)(B:PN)(s:Shared)(J:St)(H:Hp)(x y:V)(v u:Value)(Q:VK),Inv X B J H s->RelV x v->RelV y u->r x y H Q ->
  subscripted l false v u=operate [v,u] (getItem v u)->wx X (subscriptTail value l v u) (EP X B J Q) X.xe s
def OA(X:Cx)(id:String)(r:V->List V->Hp->VK->Prop):Prop:=
 ∀(B:PN)(s:Shared)(J:St)(H:Hp)(x:V)(xs:List V)(v:Value)(q:LV)(Q:VK),Inv X B J H s->RelV x v->bi xs q->r x xs H Q ->
  wx X (call (.builtin id) (v::q)) (EP X B J Q) X.xe s
section
variable{X:Cx}{a b:Expr}{ta tb:TE}{G:Pos}
theorem CG.or(h:CG X r)(h':CG X i):CG X (λx y H Q=>r x y H Q\/i x y H Q):=by
 intro value l B s J H x y v u Q I e n q a;rcases q with q|q
 .exact h value l B s J H x y v u Q I e n q a
 .exact h' value l B s J H x y v u Q I e n q a
theorem A8(f:CG X r)(n:PE X a ta)(k:PE X b tb)(c:kO b):PE X (.Subscript a b G) (Gq r ta tb):=by intro B s J H Q I h;exact Subscript_ (Ii n k I h λv u p x y H2 e m t q=>f a b B p J H2 x y v u Q e m t q (c _ _))
def Na(K:FG):R2:=λx y H Q=>∃p xs i v,x=.ref p/\y=.int i/\iA K H p xs/\atI xs i=some v/\Q v H
def M_(K:FG):R2:=λx y H Q=>∃p xs i v,x=.ref p/\y=.int i/\pL K H p xs/\atI xs i=some v/\Q v H
def M':R2:=λx y H Q=>∃z i c,x=.str z/\y=.int i/\z.length≤sizeLine/\atI z.cps.toList i=some c/\Q (.str ⟨#[c]⟩) H
theorem rZ:CG X (Na X.K):=by
 intro value c B s J H x y v u Q a P A h d;obtain⟨p,xs,i,z,rfl,rfl,K,S,q⟩:=h;cases P;obtain⟨t,rfl⟩:=A;obtain⟨n,r,l,E⟩:=a.list K;obtain⟨j,I,h2,C,g,o⟩:=sJ S;obtain⟨w,b,k⟩:=r.get h2;have F:=r.length;have D:=jZ;have f:EP X B J Q w s:=⟨z,H,a,k,q⟩;by_cases m:0≤i
 .have e:i.toNat=j:=by
   rw[seqIndex_of m o]at I;exact hU I
  exact item_listR l.isList m (by lia) (by rw[e];simpa using b) f d
 .have e:(i+(n.toArray.size:Int)).toNat=j:=by
   rw[seqIndex_neg (by lia) g]at I;rw[bB,<- F];exact hU I
  exact wq (x:=w) l.isList.typeIs xn.lookup
   (wpAny_getItem_list_neg (Q:=λr s'=>r=w/\EP X B J Q r s') l.isList (by lia) (by rw[bB]<;>lia) (by lia) (by rw[e];simpa using b) ⟨rfl,f⟩) d
theorem BB:CG X (M_ X.K):=by
 intro value l B s J H x y v u Q a o S h d;obtain⟨p,xs,i,z,rfl,rfl,m,b,q⟩:=h;cases o;obtain⟨t,rfl⟩:=S;obtain⟨g,r,n,C⟩:=a.tuple m;obtain⟨j,I,h2,F,K,P⟩:=sJ b;obtain⟨w,k,e⟩:=r.get h2;have c:=r.length;have A:=jZ;have f:EP X B J Q w s:=⟨z,H,a,e,q⟩;exact wq (x:=w) n.typeIs hT.lookup
  (getItem_tuple (j:=j) (Q:=λr s'=>r=w/\EP X B J Q r s') n (by lia) (by lia) (by rw[bB,<- c];exact I) (by simpa using k) ⟨rfl,f⟩) d
theorem Hr:CG X M':=by
 intro value l B s J H x y v u Q a p d h r;obtain⟨z,i,c,rfl,rfl,o,b,q⟩:=h;obtain⟨t,rfl⟩:=p;obtain⟨S,rfl⟩:=d;obtain⟨j,I,h2,w,k,f⟩:=sJ b;have m:z.cps.toList.length=z.length:=by simp[jo]
 rw[m]at I k f;have g:=jZ;exact mv (qU s z t) slot_str_getitem.lookup (getItem_str (c:=c) (by have e:decide (i < -(2 ^ 63:Int))=false:=cC (by lia);have n:decide (i ≥ 2 ^ 63)=false:=cC (by lia);rw[e,n,qw]) (by rw[I];simpa using h2) ⟨.str ⟨#[c]⟩,H,a.tok _,⟨_,rfl⟩,q⟩) r
theorem rJ(lo hi:Option Int)(n:Nat):(sliceBounds lo hi none n).1=((HT.dw n 0 lo:Nat):Int)/\(sliceBounds lo hi none n).2.1=((HT.dw n n hi:Nat):Int)/\(sliceBounds lo hi none n).2.2=1:=by
 refine⟨?_,?_,rfl⟩
 .cases lo with
  |none=>simp[sliceBounds,HT.dw]
  |some i=>
   simp only[sliceBounds,HT.dw,wA,show(1:Int) > 0 by decide,eG];by_cases h:i < 0
   .simp only[h,eG]<;>lia
   .simp only[h,gW]<;>lia
 .cases hi with
  |none=>simp[sliceBounds,HT.dw]
  |some i=>
   simp only[sliceBounds,HT.dw,wA,show(1:Int) > 0 by decide,eG];by_cases h:i < 0
   .simp only[h,eG]<;>lia
   .simp only[h,gW]<;>lia
theorem oG(i:LV)(lo hi:Option Int):slicePick i.toArray lo hi none=((i.drop (HT.dw i.length 0 lo)).take (HT.dw i.length i.length hi-HT.dw i.length 0 lo)).toArray:=by obtain⟨I,h2,h⟩:=rJ lo hi i.toArray.size;unfold slicePick;rw[I,h2,h];simp only[sliceRange_one,pick_run,bB]<;>rfl
def M7(K:FG):V->Option Int->Option Int->Hp->VK->Prop:=λx lo hi H Q=>∃a xs,x=.ref a/\iA K H a xs/\∀p,H p=none->Q (.ref p) (upd H p (.lst (oX xs lo hi)))
theorem xR:Fp X (M7 X.K):=by intro B s J H x v m d lo hi c Q I k e p u h;obtain⟨a,xs,rfl,n,q⟩:=h;cases k;obtain⟨i,r,t,z⟩:=I.list n;have l:=r.length;refine⟨"list",_,xn.lookup,t.isList.typeIs,?_⟩;refine wpAny_getItem_list_slice t.isList e p u .none (by simp) ?_ (by rw[bB]<;>lia);rw[oG,<- l];refine⟨.ref s.heap.objs.size,_,I.laid (t':=s.toks) (o:=.lst (oX xs lo hi)) (λb f q=>bM _ q) (aw _) ?_,rfl,q _ (I.h.fresh (aw _))⟩;exact⟨bN (lE xs lo hi) z,_,0,(r.drop (HT.dw xs.length 0 lo)).take (HT.dw xs.length xs.length hi-HT.dw xs.length 0 lo),eF _ rfl⟩
theorem sH:dc X (.builtin "len") (λxs H Q=>∃p ys,xs=[.ref p]/\(iA X.K H p ys\/pL X.K H p ys)/\Q (.int ys.length) H):=by
 intro B s J H xs q Q I r h;obtain⟨p,ys,rfl,a,x⟩:=h;obtain⟨u,rfl,k⟩:=vals1 r;cases k;have f:=jZ;rcases a with a|a
 .obtain⟨i,n,e,z⟩:=I.list a;have l:=n.length;exact Calls.call_len_list e.isList (by simp only[bB]<;>lia) ⟨.int ys.length,H,I.tok _,⟨s.toks+1,by rw[bB,l]⟩,x⟩
 .obtain⟨i,n,e,z⟩:=I.tuple a;have l:=n.length;exact len_tuple e (by simp only[bB]<;>lia) ⟨.int ys.length,H,I.tok _,⟨s.toks+1,by rw[bB,l]⟩,x⟩
theorem sG:dc X (.builtin "len") (λxs H Q=>∃z,xs=[.str z]/\z.length≤sizeLine/\Q (.int z.length) H):=by intro B s J H xs q Q I r h;obtain⟨z,rfl,a,x⟩:=h;obtain⟨u,rfl,t,rfl⟩:=vals1 r;have n:=jZ;exact len_str (by lia) ⟨.int z.length,H,I.tok _,⟨_,rfl⟩,x⟩
theorem dc.or(h:dc X f r)(h':dc X f i):dc X f (λxs H Q=>r xs H Q\/i xs H Q):=by
 intro B s J H xs q Q I a x;rcases x with x|x
 .exact h B s J H xs q Q I a x
 .exact h' B s J H xs q Q I a x
def tyV(K:FG)(T:String)(x:V)(H:Hp):Prop:=match x with
 | .str _=>T="str"
 | .int _=>T="int"
 | .ref p=>(T="list"/\∃xs,iA K H p xs)\/(T="tuple"/\∃o,K.lookup p=some o/\o.cls=.type "tuple"/\o.dict=none) \/
   (T="dict"/\((∃k,H p=some (.dK k))\/∃k,H p=some (.dT k)))\/(T="set"/\∃S n,H p=some (.set S n))
 |_=>False
theorem Ak(I:Inv X B J H s)(r:RelV x v)(ty:tyV X.K T x H) :
  s.TypeIs v T/\∀a,v=.ref a->∃b,s.heap.get? a=some b/\b.dict=none:=by
 cases x with
 |str z=>obtain⟨t,rfl⟩:=r;cases (show T="str" from ty);exact⟨qU s z t,λ_ e=>nomatch e⟩
 |int i=>obtain⟨t,rfl⟩:=r;cases (show T="int" from ty);exact⟨kj s i t,λ_ e=>nomatch e⟩
 |ref p=>
  cases r;rcases ty with ⟨rfl,xs,q⟩|⟨rfl,o,h,m,d⟩|⟨rfl,h⟩|⟨rfl,S,n,h⟩
  .obtain⟨w,_,l,_⟩:=I.list q;refine⟨l.isList.typeIs,λa e=>?_⟩;cases e;obtain⟨o,n,e,c,d,_⟩:=l;exact⟨o,e,d⟩
  .refine⟨⟨o,I.kIn p o h,m⟩,λa e=>?_⟩;cases e;exact⟨o,I.kIn _ o h,d⟩
  .have z:∃o,s.heap.get? p=some o/\o.ExactDict:=by
    rcases h with ⟨f,h⟩|⟨f,h⟩
    .obtain⟨_,_,_,_,o,_,_,e,ex,_⟩:=I.h p _ h;exact⟨o,e,ex⟩
    .obtain⟨_,_,_,_,o,_,_,e,ex,_⟩:=I.h p _ h;exact⟨o,e,ex⟩
   obtain⟨o,e,ex⟩:=z;refine⟨⟨o,e,ex.1⟩,λa k=>?_⟩;cases k;exact⟨o,e,ex.2.1⟩
  .obtain⟨o,_,_,_,e,ex,_⟩:=I.h p _ h;refine⟨⟨o,e,ex.1⟩,λa k=>?_⟩;cases k;exact⟨o,e,ex.2.1⟩
 |_=>exact False.elim ty
noncomputable def MV(K:FG)(T:String)(r:V->List V->Hp->VK->Prop)(to:TE):TE:=λJ H Q=>to J H λx j=>tyV K T x j/\r x [] j Q
noncomputable def Pb(K:FG)(T:String)(r:V->List V->Hp->VK->Prop)(to:TE)(t:TA):TE:=λJ H Q=>to J H λx j=>tyV K T x j/\t J j λxs H2=>r x xs H2 Q
variable{o e:Expr}{es:Ab}{to:TE}{t:TA}{name:Str}{apos cpos:Pos}{T id:String}{r:V->List V->Hp->VK->Prop}
theorem GW(p:PlainAttrs T)(slot:Slot T name id)(t:typeOf (.builtin id)=pure (.type "method_descriptor"))(m:OA X id r)(k:PE X o to)
  (b:attributeBase o name X.e (eval o X.e)=eval o X.e:=by rfl) (l:(apos.endLine == cpos.line)=true:=by rfl):PE X (.Call (.Attribute o name apos) [] [] cpos) (MV X.K T r to):=by
 intro B s J H Q a h;refine wpAny_Call_method0_late b l (cR (k B s J H _ a h) λv f z=>?_);obtain⟨x,j,e,n,ty,q⟩:=z;obtain⟨I,h2⟩:=Ak e n ty;exact⟨T,id,p,slot,t,I,h2,qD rfl (PySem.evalArgs_none (m B f J j x [] v [] Q e n .nil q))⟩
theorem Kh(g:PlainAttrs T)(slot:Slot T name id)(y:typeOf (.builtin id)=pure (.type "method_descriptor"))(d:OA X id r)(w:PE X o to)(m:PA X (e::es) t)
  (b:attributeBase o name X.e (eval o X.e)=eval o X.e:=by rfl)
  (f:((backTo cpos (starEach (e::es) X.e)).all (fun x=>!x.1) && (backToKw cpos (keywordEach [] X.e)).all (fun x=>x.1.isSome)
   && decide ((e::es).length+([]:List Keyword).length+(if ([]:List Keyword).isEmpty then 0 else 1) < 30))=true:=by rfl)
  (l:(apos.endLine == cpos.line)=true:=by rfl) (u:starEach (e::es) X.e=(false,eval e X.e)::starEach es X.e:=by rfl) (p:(backTo cpos (starEach es X.e)).any (·.1)=false:=by rfl) :
  PE X (.Call (.Attribute o name apos) (e::es) [] cpos) (Pb X.K T r to t):=by
 intro B s J H Q a h;refine wpAny_Call_method_late b f l rfl (cR (w B s J H _ a h) λv K z=>?_);obtain⟨x,j,n,k,ty,i⟩:=z;obtain⟨I,h2⟩:=Ak n k ty;refine⟨T,id,g,slot,y,I,h2,?_⟩;have A:=m cpos B K J j _ n i;rw[u]at A ⊢;refine qD (by show(false ||(backTo cpos (starEach es X.e)).any (·.1))=false;rw[p]<;>rfl) (qC ?_);exact cR A λq P z=>by obtain⟨C,H2,c,F,S⟩:=z;exact d B P J H2 x C v q Q c k F S
end
def OB(X:Cx)(id:String)(r:V->List V->Hp->VK->Prop):Prop:=
 ∀(B:PN)(s:Shared)(J:St)(H:Hp)(x:V)(xs:List V)(v:Value)(q:LV)(Q:VK),Inv X B J H s->RelV x v->bi xs q->r x xs H Q ->
  wx X (call (.builtin id) (v::q)) (EP X B J Q) X.xe s
theorem bi.one:∀{x:V}{q:LV},bi [x] q->∃u,q=[u]/\RelV x u
 |_,_,.cons r .nil=>⟨_,rfl,r⟩
theorem bi.zero:∀{q:LV},bi [] q->q=[]
 |_,.nil=>rfl
variable{xs:List V}{q:LV}
theorem bi.dropLast(h:bi xs q):bi xs.dropLast q.dropLast:=by
 induction h with
 |nil=>exact .nil
 |cons r t i=>
  cases t with
  |nil=>exact .nil
  |cons x a=>exact .cons r i
theorem bi.rep(h:bi xs q):∀k:Nat,bi (List.replicate k xs).flatten (List.replicate k q).flatten
 |0=>.nil
 |k+1=>by rw[cH,cH,eM,eM];exact bi.append h (bi.rep h k)
theorem vq(l:List α):l.eraseIdx (l.length-1)=l.dropLast:=by
 induction l with
 |nil=>rfl
 |cons a r i=>
  cases r with
  |nil=>rfl
  |cons b r=>
   have e:(a::b::r).length-1=((b::r).length-1)+1:=by have I:(a::b::r).length=r.length+2:=rfl;have h2:(b::r).length=r.length+1:=rfl;lia
   rw[e,List.eraseIdx_cons_succ,i];all_goals rfl
theorem foldl_rep(i:LV):∀(k:Nat)(a:LV),
  my (λx s=>x++s) a.toArray (List.replicate k i.toArray)=(a++(List.replicate k i).flatten).toArray
 |0,a=>by simp
 |k+1,a=>by
  have e:a.toArray++i.toArray=(a++i).toArray:=by simp
  have h:(a++i)++(List.replicate k i).flatten=a++(List.replicate (k+1) i).flatten:=by rw[cH,eM,di]
  rw[<- h,<- foldl_rep i k (a++i),<- e,cH,gj]
section
variable{X:Cx}{B:PN}{J:St}{H:Hp}{s:Shared}{l b:Addr}{xs ys zs:List V}
theorem Inv.lset{t:LV}{c:Nat}(I:Inv X B J H s)(h:H l=some (.lst xs))
  (e:s.heap.get? l=some { cls:=.type "list",data:=.seq t.toArray n }) (a:f t.toArray=i.toArray) (v:bi ys i) (z:ys.length≤sizeLine) :
  Inv X B J (upd H l (.lst ys)) { s with heap:=s.heap.update l (Obj.mapSeq f),toks:=c }:=by
 have q:=PySem.IsL.update e f;rw[a]at q;refine I.write (x:=l) (e:=l) (by rw[h];exact trivial) (.inl rfl) (λm u b k=>(qM s.heap (Obj.mapSeq f) (bZ b)).trans k) ⟨_,q⟩ ?_;exact⟨z,i,_,v,q⟩
theorem Inv.lnew{t:Nat}(I:Inv X B J H s)(h:bi ys i)(z:ys.length≤sizeLine) :
  Inv X B J (upd H s.heap.objs.size (.lst ys)) { s with heap:=s.heap.push { cls:=.type "list",data:=.seq i.toArray },toks:=t }:=
 I.laid (λ_ _ q=>bM _ q) (aw _) ⟨z,i,0,h,eF _ rfl⟩
theorem Inv.fresh(I:Inv X B J H s):H s.heap.objs.size=none:=I.h.fresh (aw _)
theorem Inv.lstM(I:Inv X B J H s)(h:H l=some (.lst xs)):xs.length≤sizeLine/\∃(i:LV)(n:Nat),bi xs i/\xs.length=i.length/\s.heap.get? l=some { cls:=.type "list",data:=.seq i.toArray n }:=by obtain⟨z,i,n,r,e⟩:=I.h l _ h;exact⟨z,i,n,r,r.length,e⟩
theorem Be(h:n≤sizeLine):p_ n=false:=by unfold p_;exact cC (by lia)
end
section
variable{X:Cx}
def D4:V->List V->Hp->VK->Prop:=λx v H Q=>∃l xs y,x=.ref l/\v=[y]/\H l=some (.lst xs)/\xs.length < sizeLine/\Q .non (upd H l (.lst (xs++[y])))
theorem pc:OB X "list.append" D4:=by intro B s J H x p v q Q I c b h;obtain⟨l,xs,y,rfl,rfl,k,t,a⟩:=h;cases c;obtain⟨u,rfl,f⟩:=b.one;obtain⟨z,i,n,r,m,e⟩:=I.lstM k;refine jQ vV ⟨_,e,rfl⟩ F.entry_list_append (F.args_list_append_2 _ _) (PySem.list_append l i.toArray n u (by rw[bB];lia)) ⟨e,?_⟩;refine⟨.non,_,I.lset (i:=i++[u]) k e (by simp) (r.append (.cons f .nil)) ?_,rfl,a⟩;rw[aN,wV];lia
def M9:V->List V->Hp->VK->Prop:=λx v H Q=>∃l xs y,x=.ref l/\v=[]/\H l=some (.lst xs)/\xs[xs.length-1]? = some y/\Q y (upd H l (.lst xs.dropLast))
theorem Hc:OB X "list.pop" M9:=by
 intro B s J H x g v q Q I w d h;obtain⟨l,xs,y,rfl,rfl,b,t,a⟩:=h;cases w;have k:=d.zero;subst k;obtain⟨z,i,n,r,c,e⟩:=I.lstM b;obtain⟨u,m,p⟩:=r.get t;have f:i.toArray[i.toArray.size-1]? = some u:=by show i.toArray[i.length-1]? = some u;rw[<- wz,<- c];exact m
 refine jQ vR ⟨_,e,rfl⟩ F.entry_list_pop (F.args_list_pop_1 _) (MeetsSeq.list_pop_last l i.toArray n u f (by rw[bB];lia)) ⟨e,?_⟩;refine⟨y,_,I.lset (i:=i.dropLast) b e ?_ r.dropLast ?_,p,a⟩
 .show i.toArray.eraseIdxIfInBounds (i.toArray.size-1)=i.dropLast.toArray;rw[bB,List.eraseIdxIfInBounds_toArray,vq]
 .rw [wP];lia
def Nb:R2:=λx y H Q=>∃l b xs zs,x=.ref l/\y=.ref b/\H l=some (.lst xs)/\H b=some (.lst zs)/\xs.length+zs.length≤sizeLine/\∀p,H p=none->Q (.ref p) (upd H p (.lst (xs++zs)))
theorem G5:iT X (binaryOp .Add) Nb:=by
 intro B s J H x y v u Q I d w h;obtain⟨l,b,xs,zs,rfl,rfl,c,f,j,q⟩:=h;cases d;cases w;obtain⟨z,t,n,r,g,e⟩:=I.lstM c;obtain⟨S,i,o,p,m,a⟩:=I.lstM f;refine PySem.P.add_list e a ?_ (by rw[bB,bB];lia);have k:t.toArray++i.toArray=(t++i).toArray:=by simp
 rw[k];exact⟨.ref _,_,I.lnew (t:=s.toks) (r.append p) (by rw[aN];lia),rfl,q _ I.fresh⟩
def M8:R2:=λx y H Q=>∃l k xs,x=.ref l/\y=.int k/\H l=some (.lst xs)/\-(2 ^ 63)≤k/\k < 2 ^ 63/\xs.length * k.toNat≤sizeLine /\
 ∀p,H p=none->Q (.ref p) (upd H p (.lst (List.replicate k.toNat xs).flatten))
theorem Ew(xs:List α)(k:Nat):(List.replicate k xs).flatten.length=k * xs.length:=by
 induction k with
 |zero=>simp
 |succ k i=>rw[cH,eM,aN,i,qR,w6]
theorem G1:iT X (binaryOp .Mult) M8:=by
 intro B s J H x y v u Q f A C h;obtain⟨l,k,xs,rfl,rfl,K,I,h2,j,q⟩:=h;cases A;obtain⟨t,rfl⟩:=C;obtain⟨z,i,n,r,P,e⟩:=f.lstM K;have p:i.toArray.size * k.toNat≤sizeLine:=by rw[bB,<- P];exact j
 have c:¬i.toArray.size * k.toNat > (2 ^ 63-1) / 8:=by
  have:(sizeLine:Nat)≤(2 ^ 63-1) / 8:=by decide
  lia
 have b:¬(!Builtin.List.listFitsIndex k)=true:=by rw[fitsIndex_both I h2];exact bA
 have o:¬p_ (i.toArray.size * k.toNat)=true:=by rw[Be p];exact bA
 have w:my (λd g=>d++g) #[] (List.replicate (if i.toArray.isEmpty=true then 0 else k.toNat) i.toArray)=(List.replicate k.toNat i).flatten.toArray:=by
  have S:∀m:Nat,my (λd g=>d++g) #[] (List.replicate m i.toArray)=(List.replicate m i).flatten.toArray:=λm=>by have:=foldl_rep i m [];rw[cT]at this;exact this
  rw[S];cases i with
  |nil=>simp
  |cons a D=>rw[ar (by simp)]
 refine xF (T:="list") (U:="int") (by decide) ⟨_,e,rfl⟩ (λs'=>kj s' k t) noFill_list_mul vQ mj repeat_list vT.lookup
  (jQ mj (kj s k t) vS (vU _ _) (int___rmul___int_list k t l i.toArray n)
   ⟨e,rfl,⟨_,e,rfl⟩,jQ F.slot_list_mul ⟨_,e,rfl⟩ F.entry_list_mul (F.args_list_mul_2 _ _) (AutoListH.list___mul___list_int_3 l i.toArray n k t b c o) ⟨e,?_⟩⟩)
 rw[w];exact⟨.ref _,_,f.lnew (t:=s.toks) (r.rep k.toNat) (by rw[Ew,mL];exact j),rfl,q _ f.fresh⟩
end
section
variable{κ:Type}[DecidableEq κ]
noncomputable def ia(v:List (κ×V))(k:κ):Option V:=(v.find? λh=>decide (h.1=k)).map (·.2)
noncomputable def putK(s:List (κ×V))(k:κ)(v:V):List (κ×V):=
 if (s.any λh=>decide (h.1=k))=true then s.map (λh=>if h.1=k then (h.1,v) else h) else s++[(k,v)]
noncomputable def Oq(v:List (κ×V))(k:κ):List (κ×V):=v.filter λh=>decide (h.1≠k)
theorem g4{p:κ×V}{r:List (κ×V)}{k:κ}(e:p.1=k):ia (p::r) k=some p.2:=by simp[ia,hX,e]
theorem fG{p:κ×V}{r:List (κ×V)}{k:κ}(e:¬p.1=k):ia (p::r) k=ia r k:=by simp[ia,hX,e]
theorem sV(k:κ):∀v:List (κ×V),(v.any λh=>decide (h.1=k))=(ia v k).isSome
 | []=>rfl
 |p::r=>by
  rw[ep];by_cases e:p.1=k
  .simp only[g4 e,fE e,Bool.true_or,Option.isSome_some]
  .rw [fG e,cC e,qv];exact sV k r
theorem tU(s:List (κ×V))(k:κ)(v:V):(putK s k v).length≤s.length+1:=by
 unfold putK;split
 .rw [dL];lia
 .rw [aN,aS,dh];lia
theorem AT{s:List (κ×V)}{k:κ}(v:V)(h:ia s k=none):putK s k v=s++[(k,v)]:=by unfold putK;rw[sV,h];exact ar (by decide)
theorem iB.isSome_eq(r:iB o u):o.isSome=u.isSome:=by
 cases o with
 |none=>cases u with
  |none=>rfl
  |some _=>exact(show False from r).elim
 |some _=>cases u with
  |none=>exact(show False from r).elim
  |some _=>rfl
theorem iB.getD(r:iB o u)(h:RelV d i):RelV (o.getD d) (u.getD i):=by
 cases o with
 |none=>cases u with
  |none=>exact h
  |some _=>exact(show False from r).elim
 |some _=>cases u with
  |none=>exact(show False from r).elim
  |some _=>exact r
theorem KV.val{v:List (κ×V)}{s:List (κ×Value)}(r:KV v s)(k:κ):iB (ia v k) (valueAt s k):=by
 unfold KV at r;induction r with
 |nil=>exact True.intro
 | @cons p q ps qs h t i=>
  obtain⟨I,h2⟩:=h;by_cases e:p.1=k
  .have x:q.1=k:=I.symm.trans e;have b:valueAt (q::qs) k=some q.2:=by simp[valueAt,hX,x]
   rw[g4 e,b];exact h2
  .have x:¬q.1=k:=λz=>e (I.trans z);have b:valueAt (q::qs) k=valueAt qs k:=by simp[valueAt,hX,x]
   rw[fG e,b];exact i
theorem KV.any(r:KV i z)(k:κ):(i.any λv=>decide (v.1=k))=z.any λv=>decide (v.1=k):=by
 unfold KV at r;induction r with
 |nil=>rfl
 |cons h t x=>rw[ep,ep,x,h.1]
theorem KV.repl(r:KV i N)(k:κ)(a:RelV y u) :
  KV (i.map λv=>if v.1=k then (v.1,y) else v) (N.map λv=>if v.1=k then (v.1,u) else v):=by
 unfold KV at r ⊢;induction r with
 |nil=>exact .nil
 | @cons p q ps qs h t x=>
  rw[aU,aU];refine .cons ?_ x;obtain⟨I,h2⟩:=h;by_cases e:p.1=k
  .rw [ai e,ai (I.symm.trans e)];exact⟨I,a⟩
  .rw [ar e,ar (λz=>e (I.trans z))];exact⟨I,h2⟩
theorem KV.put(r:KV i z)(k:κ)(h:RelV y u):KV (putK i k y) (stored z k u):=by
 unfold putK stored;rw[r.any k];by_cases e:(z.any λv=>decide (v.1=k))=true
 .rw [ai e,ai e];exact r.repl k h
 .rw [ar e,ar e];exact Paired.snoc r ⟨rfl,h⟩
end
variable{w:World}
theorem pj(r:RelV (kV k) u):(bJ P w).is k u=true:=by
 cases k with
 |inl i=>obtain⟨t,e⟩:=(show ∃t,u=Value.int i t from r);subst e;exact tP P w i t
 |inr x=>obtain⟨t,e⟩:=(show ∃t,u=Value.str x t from r);subst e;exact i9 P w x t
theorem pk:∀{ks:List dX}{q:LV},bi (ks.map kV) q->ItemsAre (bJ P w) ks q
 | [],_,r=>by rw[df]at r;cases r;exact .nil
 |k::ks,_,r=>by
  rw[aU]at r;cases r with
  |cons h t=>exact .cons (pj h) (pk t)
abbrev KT(H:Hp):List (List dX×V)->List (List dX×Addr×Value)->Prop:=Paired λp q=>p.1=q.1/\H q.2.1=some (.tup (p.1.map kV))/\RelV p.2 q.2.2
theorem KT.val{H:Hp}{v:List (List dX×V)}{xs:List (List dX×Addr×Value)}(r:KT H v xs)(k:List dX):iB (ia v k) ((atKey xs k).map (·.2)):=by
 induction r with
 |nil=>exact True.intro
 | @cons p q ps qs h t i=>
  obtain⟨I,_,h2⟩:=h;by_cases e:p.1=k
  .have x:q.1=k:=I.symm.trans e;have b:atKey (q::qs) k=some q.2:=by simp[atKey,hX,x]
   rw[g4 e,b];exact h2
  .have x:¬q.1=k:=λz=>e (I.trans z);have b:atKey (q::qs) k=atKey qs k:=by simp[atKey,hX,x]
   rw[fG e,b];exact i
section
variable{P:Program}{w:World}{H:Hp}{h:Heap}{a:Addr}
theorem rd_of{u:HO}(ok:iP P w H h)(e:Rd H a u):cj P w H h a u:=e.ok ok
theorem pB{k:List (dX×V)}(ok:iP P w H h)(e:Rd H a (.dK k)):k.length≤sizeLine/\(a == sysModules)=false/\∃v,KV k v/\h.DictOf (bJ P w) a v:=
 show cj P w H h a (.dK k) from rd_of ok e
theorem K7{k:List (dX×V)}(ok:iP P w H h)(e:H a=some (.dK k)):k.length≤sizeLine/\(a == sysModules)=false/\∃v,KV k v/\h.DictOf (bJ P w) a v:=pB ok (.inl e)
theorem n0(ok:iP P w H h)(e:H a=some (.tup (ks.map kV))):(tupleKind (bJ P w)).is h ks a:=by obtain⟨_,i,r,o,I,⟨h2,n,x⟩,_⟩:=(show cj P w H h a (.tup (ks.map kV)) from ok a _ e);exact⟨o,i.toArray,n,I,h2,x,by simpa using pk r⟩
theorem uf(ok:iP P w H h)(e:Rd H a (.dT i)):i.length≤sizeLine/\(a == sysModules)=false /\
  ∃xs,KT H i xs/\h.DictOfH (tupleKind (bJ P w)) a xs:=by
 obtain⟨z,y,xs,r,o,es,k,I,h2,f,b,c⟩:=(show cj P w H h a (.dT i) from rd_of ok e);refine⟨z,y,xs,r,o,es,k,I,h2,f,b,λx s=>?_,c⟩;have all:∀{l:List (List dX×V)}{m:List (List dX×Addr×Value)},KT H l m->∀x ∈ m,(tupleKind (bJ P w)).is h x.1 x.2.1:=by
  intro l m q;induction q with
  |nil=>intro x s;exact nomatch s
  | @cons p q ps qs n t v=>
   intro x s;rcases av.mp s with e|s
   .subst e;exact n0 ok (by rw[<- n.1];exact n.2.1)
   .exact v x s
 exact all r x s
end
def kQ(H:Hp)(a:Addr)(y:V)(r:Option V):Prop:=
 (∃v k,Rd H a (.dK v)/\y=kV k/\r=ia v k)\/∃v k b,Rd H a (.dT v)/\y=.ref b/\H b=some (.tup (k.map kV))/\r=ia v k
def Qj(H:Hp)(a:Addr)(y v:V)(H':Hp):Prop:=
 (∃s k,H a=some (.dK s)/\y=kV k/\s.length < sizeLine/\H'=upd H a (.dK (putK s k v))) \/
 ∃s k b,H a=some (.dT s)/\y=.ref b/\H b=some (.tup (k.map kV))/\s.length < sizeLine/\H'=upd H a (.dT (putK s k v))
theorem kQ.k{H:Hp}{a:Addr}{v:List (dX×V)}{k:dX}(e:H a=some (.dK v)):kQ H a (kV k) (ia v k):=.inl ⟨v,k,.inl e,rfl,rfl⟩
section
variable{X:Cx}{B:PN}{J:St}{H:Hp}{s:Shared}{a:Addr}{y v:V}{u r:Value}{o:Option V}{A:Around}{E:VP}
theorem Inv.big(I:Inv X B J H s):sysModules < s.heap.objs.size:=by have h:mainGlobals < s.heap.objs.size:=(I.mod.glob.keeps I.bk).lt;exact w9 (by decide) h
theorem zk(S:A.units+1 < cLine)(I:Inv X B J H s)(g:kQ H a y (some v))(t:RelV y u)(h:∀x s',Inv X B J H s'->RelV v x->Q x s') :
  wpAny (model X.p X.w) A (getItem (.ref a) u) Q E s:=by
 rcases g with ⟨m,k,e,n,l⟩|⟨m,k,b,e,n,q,l⟩
 .subst n;obtain⟨z,i,F,r,d⟩:=pB I.h e;obtain⟨x,c,w⟩:=iB.some_of (v:=v) (o:=valueAt F k) (by rw[l];exact r.val k);exact xk (pj t) d.mapOf c (h x _ (I.tok _) w)
 .subst n;cases (show u=Value.ref b from t);obtain⟨z,i,xs,r,d⟩:=uf I.h e;obtain⟨x,c,w⟩:=iB.some_of (v:=v) (o:=(atKey xs k).map (·.2)) (by rw[l];exact r.val k);obtain⟨p,j,f⟩:=dJ.mp c;refine wpAny_getItem_heap (pO S) (n0 I.h q) d j ?_;rw[f];exact h x _ (I.tok _) w
theorem NJ(m:A.units+1 < cLine)(I:Inv X B J H s)(g:kQ H a y o)(f:RelV y u)(h:∀s',Inv X B J H s'->Q (.bool o.isSome) s') :
  wpAny (model X.p X.w) A (compareOp .In u (.ref a)) Q E s:=by
 rcases g with ⟨v,k,e,x,l⟩|⟨v,k,b,e,x,c,l⟩
 .subst x;obtain⟨z,n,t,r,d⟩:=pB I.h e;refine wpAny_in_of (pj f) n d.mapOf ?_;rw[<- (r.val k).isSome_eq,<- l];exact h _ (I.tok _)
 .subst x;cases (show u=Value.ref b from f);obtain⟨z,n,xs,r,d⟩:=uf I.h e;refine wpAny_in_heap (pO m) (n0 I.h c) n d ?_;have q:=(r.val k).isSome_eq;rw[wC]at q;rw[<- q,<- l];exact h _ (I.tok _)
theorem ET(m:A.units+1 < cLine)(I:Inv X B J H s)(g:kQ H a y o)(f:RelV y u)(h:∀s',Inv X B J H s'->Q (.bool (!o.isSome)) s') :
  wpAny (model X.p X.w) A (compareOp .NotIn u (.ref a)) Q E s:=by
 rcases g with ⟨v,k,e,x,l⟩|⟨v,k,b,e,x,c,l⟩
 .subst x;obtain⟨z,n,t,r,d⟩:=pB I.h e;refine wpAny_notIn_of (pj f) n d.mapOf ?_;rw[<- (r.val k).isSome_eq,<- l];exact h _ (I.tok _)
 .subst x;cases (show u=Value.ref b from f);obtain⟨z,n,xs,r,d⟩:=uf I.h e;refine wpAny_notIn_heap (pO m) (n0 I.h c) n d ?_;have q:=(r.val k).isSome_eq;rw[wC]at q;rw[<- q,<- l];exact h _ (I.tok _)
theorem ER{t:Nat}(I:Inv X B J H s)(m:Lu (H a))(f:iX a s.heap h')(k:∃q,h'.get? a=some q)(n:cj X.p X.w (upd H a i) h' a i) :
  Inv X B J (upd H a i) { s with heap:=h',toks:=t }:=
 I.write (x:=a) (e:=a) m (.inl rfl) (λb q h z=>(f.2 b h).trans z) k n
theorem HU{P:Program}{w:World}{H':Hp}{h':Heap}{k:List (dX×V)}{v:List (dX×Value)}(z:k.length≤sizeLine)(h:(a == sysModules)=false)(r:KV k v)(d:h'.DictOf (bJ P w) a v) :
  cj P w H' h' a (.dK k):=⟨z,h,v,r,d⟩
end
variable{H:Hp}
theorem B8(h:Heap)(b:sysModules < h.objs.size):cj P w H (h.push { cls:=.type "dict",data:=.dict #[] }) h.objs.size (.dK []):=
 ⟨dn _,ls.mpr (bZ (bO b)),[],.nil,Heap.DictOf.new h⟩
def rD:List (TE×TE)->St->Hp->(List (V×V)->Hp->Prop)->Prop
 | [],_,H,Q=>Q [] H
 |(tk,tv)::r,J,H,Q=>tk J H λx j=>tv J j λy H2=>rD r J H2 λps h=>Q ((x,y)::ps) h
abbrev VV:List (V×V)->List (Value×Value)->Prop:=Paired λp q=>RelV p.1 q.1/\RelV p.2 q.2
def Lr(X:Cx)(G:Pos)(k:List (Option Expr))(v:Ab)(t:List (TE×TE)):Prop:=
 ∀(B:PN)(s:Shared)(J:St)(H:Hp)(Q:List (V×V)->Hp->Prop),Inv X B J H s->rD t J H Q ->
  wx X (evalPairs (pairTrees k v X.e G)) (λh s'=>∃ps H',Inv X B J H' s'/\VV ps h/\Q ps H') X.xe s
variable{X:Cx}{G:Pos}
theorem D9:Lr X G [] [] []:=λB s J H Q I h=>pairTrees_nil_walk ⟨[],H,I,.nil,h⟩
theorem AY(b:PE X k tk)(m:PE X v tv)(c:Lr X G ks z i) :
  Lr X G (some k::ks) (v::z) ((tk,tv)::i):=λB s J H Q I h=>
 pairTrees_cons_walk (cR (b B s J H _ I h) fun u g ⟨x,j,e,d,q⟩=>cR (m B g J j _ e q) fun S l ⟨y,H2,n,w,t⟩=>
  cR (c B l J H2 _ n t) λF o ⟨ps,a,f,r,p⟩=>⟨(x,y)::ps,a,f,.cons ⟨d,w⟩ r,p⟩)
def i_(k m:List (dX×V)):List (dX×V):=m.foldl (λa v=>putK a v.1 v.2) k
theorem KV.merge:∀{m:List (dX×V)}{s:List (dX×Value)}{k:List (dX×V)}{v:List (dX×Value)},KV m s->KV k v->KV (i_ k m) (merged v s):=by
 intro m s k v r;unfold KV at r;induction r generalizing k v with
 |nil=>intro q;exact q
 | @cons p q ps qs h t i=>
  intro x;have e:KV (putK k p.1 p.2) (stored v q.1 q.2):=by have:=x.put p.1 h.2;rw[<- h.1];exact this
  exact i e
theorem jL:∀(m k:List (dX×V)),(i_ k m).length≤k.length+m.length
 | [],k=>by show k.length≤k.length+0;lia
 |p::r,k=>by have I:=jL r (putK k p.1 p.2);have h2:=tU k p.1 p.2;show(i_ (putK k p.1 p.2) r).length≤_;rw[aS];lia
theorem om{P:Program}{w:World}:∀{k:List (dX×V)}{x:List (Value×Value)},VV (k.map λv=>(kV v.1,v.2)) x->∃s,Carries (bJ P w) x s/\KV k s
 | [],_,r=>by rw[df]at r;cases r;exact⟨[],True.intro,.nil⟩
 |p::k,_,r=>by
  rw[aU]at r;cases r with
  | @cons a b n m h t=>obtain⟨s,c,q⟩:=om (P:=P) (w:=w) t;obtain⟨f,e⟩:=b;exact⟨(p.1,e)::s,⟨pj h.1,rfl,c⟩,.cons ⟨rfl,h.2⟩ q⟩
def JN(t:List (TE×TE)):TE:=λJ H Q=>∀p,H p=none->rD t J (upd H p (.dK [])) λps H2=>H2 p=some (.dK [])/\∃k:List (dX×V),ps=k.map (λv=>(kV v.1,v.2))/\k.length≤15/\Q (.ref p) (upd H2 p (.dK (i_ [] k)))
theorem Ef(h:Lr X G i N trs)(l:i.all (·.isSome)=true)(j:i.length=N.length)(v:i≠[])
  (n:i.length≤15):PE X (.Dict i N G) (JN trs):=by
 intro B s J H Q x q;have y:=x.h.fresh (aw s.heap.objs.size);have m:=x.laid (a:=s.heap.objs.size) (o:=.dK []) (h':=s.heap.push { cls:=.type "dict",data:=.dict #[] }) (t':=s.toks) (λ_ _ q=>bM _ q) (aw _) (B8 s.heap x.big);refine wpAny_Dict_walk (knd:=bJ X.p X.w) l j v n (cR (h B _ J _ _ m (q _ y)) λM L f=>?_);obtain⟨ps,H2,b,r,e,k,p,lk,K⟩:=f;subst p;obtain⟨D,c,C⟩:=om (P:=X.p) (w:=X.w) r;obtain⟨z,u,E,A,t⟩:=K7 b.h e;cases A;refine⟨D,c,t,λh' d F=>⟨.ref s.heap.objs.size,_,?_,rfl,K⟩⟩;have f:(i_ [] k).length≤sizeLine:=by have I:=jL k [];rw[dh]at I;rw[kl];lia
 have g:∃q,h'.get? s.heap.objs.size=some q:=let ⟨q,_,_,S,_⟩:=d;⟨q,S⟩
 exact ER b (by rw[e];exact True.intro) F g (HU f u (C.merge .nil) d)
structure M1(X:Cx)(o:Expr)(m:Str)(apos:Pos)(e:Expr)(cpos:Pos):Prop where
 base:attributeBase o m X.e (eval o X.e)=eval o X.e
 few:((backTo cpos (starEach [e] X.e)).all (fun x=>!x.1) && (backToKw cpos (keywordEach [] X.e)).all (fun x=>x.1.isSome)
  && decide (([e]:Ab).length+([]:List Keyword).length+(if ([]:List Keyword).isEmpty then 0 else 1) < 30))=true
 line:(apos.endLine == cpos.line)=true
 trees:backTo cpos (starEach [e] X.e)=[(false,eval e X.e)]
structure M2(X:Cx)(o:Expr)(m:Str)(apos:Pos)(e f:Expr)(cpos:Pos):Prop where
 base:attributeBase o m X.e (eval o X.e)=eval o X.e
 few:((backTo cpos (starEach [e,f] X.e)).all (fun x=>!x.1) && (backToKw cpos (keywordEach [] X.e)).all (fun x=>x.1.isSome)
  && decide (([e,f]:Ab).length+([]:List Keyword).length+(if ([]:List Keyword).isEmpty then 0 else 1) < 30))=true
 line:(apos.endLine == cpos.line)=true
 trees:backTo cpos (starEach [e,f] X.e)=[(false,eval e X.e),(false,eval f X.e)]
def OG(H:Hp)(a:Addr):Prop:=(∃k,Rd H a (.dK k))\/∃k,Rd H a (.dT k)
theorem Hy(h:Inv X B J H s)(d:OG H a) :
  s.TypeIs (.ref a) "dict"/\(∀b,Value.ref a=.ref b->∃o,s.heap.get? b=some o/\o.dict=none)/\(a == sysModules)=false:=by
 rcases d with ⟨k,e⟩|⟨k,e⟩
 .obtain⟨_,n,v,_,x⟩:=pB h.h e;refine⟨x.typeIs,λb q=>?_,n⟩;cases q;obtain⟨o,_,_,I,h2,_⟩:=x;exact⟨o,I,h2.2.1⟩
 .obtain⟨_,n,xs,_,x⟩:=uf h.h e;refine⟨x.typeIs,λb q=>?_,n⟩;cases q;obtain⟨o,_,_,I,h2,_⟩:=x;exact⟨o,I,h2.2.1⟩
section
variable{X:Cx}{B:PN}{J:St}{H:Hp}{s:Shared}{a:Addr}{y d:V}{u r:Value}{o:Option V}{A:Around}{E:VP}
theorem HX(q:A.units+1 < cLine)(I:Inv X B J H s)(g:kQ H a y o)(t:RelV y u)(m:RelV d r)(h:∀w s',Inv X B J H s'->RelV (o.getD d) w->Q w s') :
  wpAny (model X.p X.w) A (call (.builtin "dict.get") [.ref a,u,r]) Q E s:=by
 rcases g with ⟨v,k,e,f,l⟩|⟨v,k,b,e,f,p,l⟩
 .subst f;obtain⟨z,c,i,x,n⟩:=pB I.h e;refine call_meetsIn qd n.typeIs vY (vZ _ _ _) (meets_dict_get_default (bJ X.p X.w) a (pj t) c r) ⟨_,n.mapOf,h _ _ (I.tok _) ?_⟩;rw[l];exact(x.val k).getD m
 .subst f;cases (show u=Value.ref b from t);obtain⟨z,c,xs,x,n⟩:=uf I.h e;refine call_meetsIn qd n.typeIs vY (vZ _ _ _) (meetsH_dict_get_default (tupleKind (bJ X.p X.w)) a b c r) ⟨pO q,k,xs,n0 I.h p,n,h _ _ (I.tok _) ?_⟩;rw[l];exact(x.val k).getD m
end
noncomputable def Gr(td ty tx:TE):TE:=λJ H Q=>td J H λx j=>∃a,x=.ref a/\OG j a/\ty J j λy H2=>tx J H2 λz h=>∃o,kQ h a y o/\Q (o.getD z) h
section
variable{X:Cx}{o e f:Expr}{apos cpos:Pos}{td ty tx:TE}
theorem A_(w:X.A.units+1 < cLine)(v:PE X o td)(p:PE X e ty)(q:PE X f tx)(m:M2 X o "get" apos e f cpos):PE X (.Call (.Attribute o "get" apos) [e,f] [] cpos) (Gr td ty tx):=by
 intro B s J H Q I h;refine wpAny_Call_method m.base m.few m.line PySem.F.plainAttrs_dict qd PySem.F.type_dict_get (cR (v B s J H _ I h) fun u C i=>?_);obtain⟨x,j,n,K,a,ex,d,l⟩:=i;subst ex;obtain rfl:u=Value.ref a:=K;obtain⟨E,G,_⟩:=Hy n d;refine⟨E,G,?_⟩;rw [m.trees];refine qD rfl (qC (mw (cR (p B C J j _ n l) fun M D ⟨y,H2,b,P,S⟩=>
  mw (cR (q B D J H2 _ b S) λL R ⟨z,k,c,A,N,g,F⟩=>qB ?_))))
 exact HX w c g P A λV T t r=>⟨_,k,t,r,F⟩
end
end L2
set_option tactic.hygienic true
namespace Att
open PySem PySem.W PySem.Calls PyProof.Rows
theorem lJ:∀(s:List Int)(v:LV),WellAll P h v (s.map WData.int)->IntsAre v s:=by
 intro s;induction s with
 |nil=>intro v w;rw[df]at w;cases w;exact .nil
 |cons n s i=>
  intro v w;rw[aU]at w;cases w with
  |cons a b=>cases a;exact .cons _ _ (i _ b)
theorem yR{l:OpenLaw}(t:l.most=some n)
  (p:l.row.toRowW.claim.pre i=true) (w:WellAll P h z i) :
  ∃a v s,z=[Value.ref a]/\i=[WData.list (s.map WData.int)]/\h.get? a=some { cls:=.type "list",data:=.seq v.toArray }/\IntsAre v s/\s.length≤n:=by
 have b:WShape.hasAll [] i [.list .int]=true:=(pre_splitW p).1;have c:l.pre.holds [] { args:=i }=true:=(pre_splitW p).2;obtain⟨d,r,rfl,I,h2⟩:=hasAllW_cons b;obtain rfl:=hasAllW_nil h2;obtain⟨xs,rfl,m⟩:=hasW_list I;obtain⟨s,rfl⟩:=items_int m;have e:s.length≤n:=by
  unfold OpenLaw.pre at c;have k:(WTm.not (.lt (.lit (.int (n:Int))) (.len (.arg 0)))).holds [] { args:=[.list (s.map .int)] }=true:=by have k:=(holds_andW c).1;rw[t]at k;exact k
  have f:=condW_of k (w_not (w_lt w_lit (w_len_list (w_arg rfl))));rw[dL]at f;refine Nat.le_of_not_lt λq=>?_;have u:(n:Int) < ((s.length:Nat):Int):=by lia
  first
   |(rw[fE u]at f;exact absurd f (by decide))
   |(simp at f;lia)
 cases w with
 |cons g j=>
  cases j;cases g with
  |list o x=>exact⟨_,_,s,rfl,rfl,o,lJ s _ x,e⟩
theorem yW(l:OpenLaw)(a:List WData):l.row.toRowW.claim.post a (.bool true) a=true:=
 postW_of (r:=l.row.toRowW) (X:=(true == true))
  (show WShape.has [] (.bool true) .bool=true by first|rfl|decide|simp[WShape.has,WShape.arms,WShape.armsAll])
  (show(WTm.eq .res (.lit (.bool true))).value [] { args:=a,res:=some (.bool true),after:=a }=some (.bool (true == true)) from w_eq_bool (w_res rfl) w_lit) rfl
theorem attach_call{l:OpenLaw}
  (M:l.most=some n) (u:d.params.defaults=[])
  (call:∀(w:World) (h s:Shared) (mg y:SV) (x:Addr) (o:Obj) (H k c:Value) (a:Addr) (v:LV) (m:List Int),
   Ground i z [] N w h mg y s.heap->YP w s.heap ->
   s.heap.get? x=some o->o.data=.func (docDef d.name d.params d.body d.scope H k c)->s.heap.CodeRec k d.name->mg d.name=some (.ref x) ->
   s.heap.get? a=some { cls:=.type "list",data:=.seq v.toArray }->IntsAre v m->m.length≤n->s.gens=#[] ->
   codeAny (model l.prog w) callerA (.call (.ref x) ⟨[.ref a],[]⟩) (λr s'=>r=.ok (.ret (.bool true))/\OldK s.heap s'.heap/\s'.os=s.os/\AllBare s'.gens) s) :
  WalkO i z N YP l.row.toRowW d [] (λf v=>PySem.call f v):=by
 intro w h s mg y G P x o H k c V kV Q C q D g E S K W p F T j I;obtain rfl:V=.none:=Dflts.none D u;obtain rfl:kV=.none:=Dflts.noKw D;obtain⟨a,v,m,rfl,rfl,b,t,e⟩:=yR M p j;refine enter_call (hJ (call w h s mg y x o H k c a v m G P Q (fd_plain C) q g b t e E) λr s' R=>?_);obtain⟨rfl,h2,A,B⟩:=R;exact⟨.inl ⟨.bool true,.bool true,[],rfl,λ_=>rfl,.bool true,yW l _,λ_=>⟨List.Pairwise.nil,λ_ L=>(nomatch L)⟩⟩,h2,A,B⟩
end Att
set_option tactic.hygienic false
namespace L2
open PySem PySem.Spec PyProof.Rows
theorem o4:∀{v:LV}{s:List Int},IntsAre v s->bi (s.map V.int) v
 |_,_,.nil=>.nil
 |_,_,.cons n t h=>.cons ⟨t,rfl⟩ (o4 h)
def zB(H:Hp):Prop:=∀b,H b=none\/∃o xs,H b=some (.frz o (.lst xs))
set_option tactic.hygienic true in
theorem Bv{P:Program}{w:World}{K:FG}{mg Z:SV}{CX:zC}{k:Nat}{Q a:Addr}{fd:FuncData}{x:Str}{sp:Sp}{f:Shared}{j:LV}{G:List Int}
  (KX:K.In f.heap) (B:f.heap.Ns mainGlobals mg) (t:f.heap.Ns builtinsNs Z) (R:∀x:Str,x≠"__name__"->Z x=bootBuiltins x) (A:f.heap.NoLimit) (hg:f.gens=#[])
  (M:f.heap.get? a=some { cls:=.type "list",data:=.seq j.toArray }) (hi:IntsAre j G) (hl:G.length≤sizeLine) (hr:Room k callerA)
  (F:∀base:Heap,K.In base->base.Ns mainGlobals mg->FnOk P w K mg base CX k Q fd [x] sp) (i:∀(s:Shared)(u:Value),BindsTo s fd ⟨[u],[]⟩ [(x,u)])
  (W:∀H:Hp,zB H->iA K H a (G.map V.int)->sp [.ref a] H (λv _=>v=.bl true) λ_ _ _=>False)
  (X:∀H e s',CX [] H f (λ_ _ _=>False) e s'->False) :
  codeAny (model P w) callerA (.call (.ref Q) ⟨[.ref a],[]⟩) (λr s'=>r=.ok (.ret (.bool true))/\OldK f.heap s'.heap/\s'.os=f.os/\AllBare s'.gens) f:=by
 have rv:=o4 hi;have E:=hi.length;have g:∀H:Hp,zB H->iA K H a (G.map V.int)->iP P w H f.heap->(∀b,H b≠none->b=a)->(H a≠none->K.lookup a=none) ->
   codeAny (model P w) callerA (.call (.ref Q) ⟨[.ref a],[]⟩) (λr s'=>r=.ok (.ret (.bool true))/\OldK f.heap s'.heap/\s'.os=f.os/\AllBare s'.gens) f:=by
  intro H hO hS C hA hK;have c:∀{b:Addr}{o:Obj},f.heap.get? b=some o->H b=none->(r_ f.heap H).get? b=some o:=λe n=>BN e n
  have noA:∀{b:Addr}{o:Obj}{es:Array DictEntry}{y:Nat},f.heap.get? b=some o->o.data=.dict es y->H b=none:=λ{b o es y} e d=>by
   cases q:H b with
   |none=>rfl
   |some u=>have N:b=a:=hA b (by rw[q];simp);subst N;rw[M]at e;cases e;have d':Data.seq j.toArray _=Data.dict es y:=d;cases d'
  have p:∀{b:Addr}{m:SV},f.heap.Ns b m->(r_ f.heap H).Ns b m:=fun {b m} ⟨o,es,y,e,d,r⟩=>⟨o,es,y,c e (noA e d),d,r⟩;have S:K.In (r_ f.heap H):=fun b o e=>c (KX b o e) (by
   cases q:H b with
   |none=>rfl
   |some u=>have N:b=a:=hA b (by rw[q];simp);subst N;rw[hK (by rw[q];simp)]at e;cases e)
  have hM:Mod K mg (r_ f.heap H):=⟨S,p B,⟨Z,p t,R⟩,let ⟨mc,I,h2⟩:=A;⟨mc,p I,h2⟩⟩;have e0:Env0 P w K mg (r_ f.heap H) callerA [] f H:=⟨rfl,hM,λb o e=>El e,w8 (zd _ _),trivial,λb t=>absurd (show b ∈ ([]:List Addr) from t) (by simp),C,.of_eq hg⟩;refine hJ ((F _ S (p B)).run callerA [] f H ⟨[.ref a],[]⟩ [.ref a] [.ref a] _ _ hr e0 (i f (.ref a)) (.cons rfl .nil) (W H hO hS)) λr s' h=>?_;cases r with
  |error e=>exact(X H e s' h).elim
  |ok fl=>
   cases fl with
   |next=>exact False.elim h
   |brk=>exact False.elim h
   |cont=>exact False.elim h
   |ret u=>
    obtain⟨v,H',os,l,un,D,r',q⟩:=h;have q':v=.bl true:=q;subst q';obtain rfl:u=Value.bool true:=r';refine⟨rfl,OldK.of_keep λb o e=>?_,os,l⟩;cases q:H b with
    |none=>exact un.keep b o e q (by intro z;exact absurd (show b ∈ ([]:List Addr) from z) (by simp)) (by simp)
    |some u=>
     rcases hO b with z|⟨ob,xs,z⟩
     .rw [q]at z;cases z
     .have z2:=un.frzs b ob _ z;obtain⟨e1,_⟩:=C b _ z;obtain⟨e2,_⟩:=D b _ z2;rw[e]at e1;cases e1;exact e2
 cases T:K.lookup a with
 |some o=>have e:=KX a o T;rw[M]at e;cases e;refine g (λ_=>none) (λ_=>.inl rfl) (.inr ⟨_,j.toArray,_,T,rfl,rfl,rfl,by rw[bB,E];exact hl,by simpa using rv⟩) (λb u z=>by have L:(none:Option HO)=some u:=z;cases L) (λb z=>absurd rfl z) λz=>absurd rfl z
 |none=>
  refine g (λb=>if b=a then some (.frz { cls:=.type "list",data:=.seq j.toArray } (.lst (G.map V.int))) else none) (λb=>?_) (.inl (.inr ⟨{ cls:=.type "list",data:=.seq j.toArray },ai rfl⟩)) (λb u z=>?_) (λb z=>?_) λ_=>T
  .by_cases t:b=a
   .exact .inr ⟨_,_,ai t⟩
   .exact .inl (ar t)
  .by_cases t:b=a
   .have L:=(ai t).symm.trans z;cases L;subst t;exact⟨M,by rw[dL];exact hl,j,_,rv,M⟩
   .have L:=(ar t).symm.trans z;cases L
  .by_cases t:b=a
   .exact t
   .exact absurd (ar t) z
noncomputable abbrev OC{K:FG}(_:K.In h):FG:=K
theorem Dz{l:zL}{n k:Nat}{q:Program}{c:LS}{B:(SV)->Heap->Prop}{P:World->Heap->Prop}{d:DefRec}{K:Params->FG}{CX:World->zC}{sp:World->Sp}{x:Str}
  (W:l.most=some n) (y:n≤sizeLine) (p:d.params.defaults=[]) (Z:Room k callerA)
  (N:∀(w:World)(h:Heap),P w h->(K w.params).In h)
  (F:∀(w:World) (mg:SV) (r:Addr) (h:Heap),(K w.params).In h->h.Ns mainGlobals mg->mg d.name=some (.ref r) ->
   ∃fd:FuncData,(∀(s:Shared)(u:Value),BindsTo s fd ⟨[u],[]⟩ [(x,u)]) /\
    ∀base:Heap,(K w.params).In base->base.Ns mainGlobals mg->FnOk l.prog w (K w.params) mg base (CX w) k r fd [x] (sp w))
  (z:∀(w:World)(H:Hp)(a:Addr)(t:List Int),t.length≤n->zB H->iA (K w.params) H a (t.map V.int)->sp w [.ref a] H (λv _=>v=.bl true) λ_ _ _=>False)
  (C:∀(w:World)(H:Hp)(s:Shared)(e:Value)(s':Shared),CX w [] H s (λ_ _ _=>False) e s'->False) :
  zK q c B P l.row.toRowW d [] (λf A=>PySem.call f A):=by
 refine Att.attach_call W p λw S m mg mb r o pm cd E a A t G D ho hd R g j i b T=>?_;have X:=N w _ D;obtain⟨fd,Q,I⟩:=F w mg r _ X G.T.g g;exact Bv X G.T.g G.T.b G.T.builtins G.T.nolimit T j i (bN b y) Z I Q (λH L M=>z w H a t b L M) λH e s'=>C w H m e s'
theorem Ag{l:zL}{n k:Nat}{q:Program}{o:LS}{X:(SV)->Heap->Prop}{P:World->Heap->Prop}{d:DefRec}{K:Params->FG}{CX:zC}{sp:FG->Sp}{x:Str}
  (i:l.most=some n) (m:n≤sizeLine) (c:d.params.defaults=[]) (j:Room k callerA)
  (g:∀(w:World)(h:Heap),P w h->(K w.params).In h)
  (F:∀(w:World) (mg:SV) (r:Addr) (h:Heap),(K w.params).In h->h.Ns mainGlobals mg->mg d.name=some (.ref r) ->
   ∃fd:FuncData,(∀(s:Shared)(u:Value),BindsTo s fd ⟨[u],[]⟩ [(x,u)]) /\
    ∀base:Heap,(K w.params).In base->base.Ns mainGlobals mg->FnOk l.prog w (K w.params) mg base CX k r fd [x] (sp (K w.params)))
  (p:∀(K:FG)(H:Hp)(a:Addr)(b:List Int),b.length≤n->zB H->iA K H a (b.map V.int)->sp K [.ref a] H (λv _=>v=.bl true) λ_ _ _=>False)
  (C:∀(H:Hp)(s:Shared)(e:Value)(s':Shared),CX [] H s (λ_ _ _=>False) e s'->False) :
  zK q o X P l.row.toRowW d [] (λf y=>PySem.call f y):=
 Dz (K:=K) (CX:=λ_=>CX) (sp:=λw=>sp (K w.params)) i m c j g F (λw H a b I h2 t=>p (K w.params) H a b I h2 t) λ_ H s e s'=>C H s e s'
noncomputable def aa(s:Stmt)(j:Nat):Stmt:=match s with
 | .ClassDef _ _ _ b _ _ _ _ _ _ _=>b.getD j (.Pass ⟨0,0,0,0⟩)
 |_=>.Pass ⟨0,0,0,0⟩
noncomputable def aK(s:Stmt):Arguments:=match s with
 | .FunctionDef _ a _ _ _ _ _ _ _ _=>a
 |_=>{ posonlyargs:=[],args:=[],vararg:=none,kwonlyargs:=[],kw_defaults:=[],kwarg:=none,defaults:=[] }
noncomputable def aA(s:Stmt):List Stmt:=match s with
 | .FunctionDef _ _ b _ _ _ _ _ _ _=>b
 |_=>[]
noncomputable def ac(s:Stmt):Scope:=match s with
 | .FunctionDef _ _ _ _ _ _ sc _ _ _=>sc
 |_=>{ kind:=.function,names:=[],isGenerator:=false,isCoroutine:=false }
noncomputable abbrev ow:zC:=λ_ _ _ _ _ _=>False
noncomputable abbrev E0:XK:=λ_ _ _=>False
theorem o_:ka ow X E0:=λ_ _ _ _ _ _ _ h=>h.elim
structure Fun(K:FG)(x qual:Str)(st:Stmt)(f:Addr)(fd:FuncData):Prop where
 ex:∃(oc:Value)(od:Option Addr)(kV doc pm:Value)(an:Option Addr)(cdv ct:Value)(osl:Array (OV)),
  fd=jS x qual (aK st) (aA st) (ac st) .none kV doc pm an cdv ct/\K.lookup f=some ⟨oc,od,.func fd,osl⟩/\pT K cdv qual=true
 kp:eY K (.ref f)=true
section
variable{P:Program}{w:World}{K:FG}{mg:SV}{base:Heap}
theorem Fun.ok{x u:Str}{st:Stmt}{f:Addr}{fd:FuncData}{N ps:LS}{k:Nat}{sp:Sp}(F:Fun K x u st f fd)(S:FnScope N ps (ac st))(len:∀v H Q E,sp v H Q E->v.length=ps.length)
  (b:∀(c:Value) (A:Around) (o:List Env) (s:Shared) (H:Hp) (v:List V) (Q:VK) (E:XK),Room k (A.deeper (envOfC u (ac st) s.heap.objs.size f c))->sp v H Q E ->
   ∃t,gb (lX ow P w K mg base N u (ac st) f c A o s H E).nox (aA st) t/\t { nx:=λ_ H'=>Q .non H',rt:=Q } (start N v) H):FnOk P w K mg base ow (k+1) f fd ps sp:=by
 obtain⟨m,g,kV,a,i,n,c,e,l,rfl,lk,d⟩:=F.ex;refine FK lk d S len λA o s H v Q E r p=>?_;obtain⟨t,h,q⟩:=b c A o s H v Q E r p;exact⟨t,h.nox,q⟩
theorem Fun.binds{x u:Str}{st:Stmt}{f:Addr}{fd:FuncData}{ps:LS}(F:Fun K x u st f fd)
  (h:∀(kV d p:Value)(a:Option Addr)(c t:Value)(q:LV),q.length=ps.length->bindArgs (jS x u (aK st) (aA st) (ac st) .none kV d p a c t) ⟨q,[]⟩=pure (ps.zip q)):Binds K fd ps []:=by
 obtain⟨s,n,kV,d,p,a,c,t,o,rfl,lk,e⟩:=F.ex;exact .all (h kV d p a c t)
theorem ak{x q:Str}{st:Stmt}{f:Addr}{h:Value}{e a:Option Addr}{s:Array (OV)}{kV o p d t:Value}(l:K.lookup f=some ⟨h,e,.func (jS x q (aK st) (aA st) (ac st) .none kV o p a d t),s⟩)
  (c:pT K d q=true) (k:eY K (.ref f)=true):Fun K x q st f (jS x q (aK st) (aA st) (ac st) .none kV o p a d t):=⟨⟨h,e,kV,o,p,a,d,t,s,rfl,l,c⟩,k⟩
end
section
variable{X:Cx}
theorem pv(i:Nat)(N:X.N[i]? = some x:=by rfl)(v:CA X.e.scope x:=by first|exact Or.inl rfl|exact Or.inr (Or.inl rfl)|exact Or.inr (Or.inr rfl))(d:(x == ("__debug__":Str))=false:=by decide)
  (h:(x == ("__classdict__":Str))=false:=by decide):PE X (.Name x G) (JG i):=rM N v d h
end
def Qf(H H':Hp):Prop:=∀b o,H b=some o->H' b=some o
end L2
set_option tactic.hygienic true
namespace PySem
open PySem PyProof.Rows
namespace F
end F
section
variable{prog:Program}{w:World}{A:Around}{E:VP}{s:Shared}
inductive PairsAt{K:Type}[DecidableEq K](knd:KeyKind prog w K)(h:Heap):LV->List (K×Value)->Prop
 |nil:PairsAt knd h [] []
 |cons {t:Addr}{key v:Value}{k:K}{us:LV}{kvs:List (K×Value)}:IsTup h t #[key,v]->knd.is k key=true->PairsAt knd h us kvs->PairsAt knd h (.ref t::us) ((k,v)::kvs)
end
end PySem
namespace Ev
open PySem L2
def fO(a C:Addr)(d:Option Addr):Heap->Prop:=λh=>∃o,h.get? a=some o/\o.cls=.ref C/\o.dict=d/\∃B,o.data=.fields B/\(d=none->B[2]? = some .none)
inductive P where
 |non|bl (b:Bool)|int (i:Int)|str (x:Str)|tup (xs:List P)|lst (xs:List P)|ro (xs:List P)|dct (ks:List dX) (vs:List P)
inductive D where
 |p (v:P)|ref (i:Nat)
inductive SO where
 |lst (xs:List D)|dct (ks:List dX) (vs:List D)|fz (v:P)|ins (c:Str) (ks:LS) (vs:List D)|exc (c:Str) (x:Option (Str×P))|tpl (xs:List D)|dtt (ks:List (List dX)) (vs:List D)
noncomputable abbrev aL:=List SO
noncomputable abbrev Lc:=List (Option D)
def N2(K:FG)(a:Addr)(xs:List V):Prop:=pL K (λ_=>none) a xs
def N3(K:FG)(a:Addr)(xs:List V):Prop:=iA K (λ_=>none) a xs
def TupAt(K:FG)(H:Hp)(a:Addr)(xs:List V):Prop:=H a=some (.tup xs)\/N2 K a xs
def LstAt(F:Aa)(H:Hp)(a:Addr)(xs:List V):Prop:=F a/\H a=some (.lst xs)
def zA(K:FG)(F:Aa)(H:Hp)(a:Addr)(xs:List V):Prop:=(F a/\∃o,H a=some (.frz o (.lst xs)))\/N3 K a xs
variable{K:FG}{H:Hp}{a:Addr}{xs:List V}
theorem TupAt.sq(h:TupAt K H a xs):pL K H a xs:=by
 rcases h with h|(h|h)
 .exact .inl (.inl h)
 .rcases h with h|⟨o,h⟩<;>cases h
 .exact .inr h
variable{F:Aa}
theorem LstAt.sq(h:LstAt F H a xs):iA K H a xs:=.inl (.inl h.2)
theorem zA.sq(h:zA K F H a xs):iA K H a xs:=by
 rcases h with ⟨_,o,h⟩|(h|h)
 .exact .inl (.inr ⟨o,h⟩)
 .rcases h with h|⟨o,h⟩<;>cases h
 .exact .inr h
section
variable(K:FG)(F:Aa)(H:Hp)
mutual
noncomputable def RP:P->V->Prop
 | .non,v=>v=.non
 | .bl b,v=>v=.bl b
 | .int i,v=>v=.int i
 | .str x,v=>v=.str x
 | .tup ds,v=>∃a xs,v=.ref a/\TupAt K H a xs/\cI ds xs
 | .lst ds,v=>∃a xs,v=.ref a/\LstAt F H a xs/\cI ds xs
 | .ro ds,v=>∃a xs,v=.ref a/\zA K F H a xs/\cI ds xs
 | .dct ks ds,v=>∃a kvs,v=.ref a/\F a/\H a=some (.dK kvs)/\kvs.map (·.1)=ks/\cI ds (kvs.map (·.2))
noncomputable def cI:List P->List V->Prop
 | [],xs=>xs=[]
 |d::ds,xs=>∃x r,xs=x::r/\RP d x/\cI ds r
end
def RD(m:List Addr):D->V->Prop
 | .p d,v=>RP K F H d v
 | .ref i,v=>∃a,v=.ref a/\m[i]? = some a
def dQ(m:List Addr):List D->List V->Prop
 | [],xs=>xs=[]
 |d::s,xs=>∃x r,xs=x::r/\RD K F H m d x/\dQ m s r
def XD(x:Option (Str×P))(o:Option Addr):Prop:=match x with
 |none=>o=none
 |some z=>∃d v,o=some d/\F d/\H d=some (.xd [(z.1,v)])/\RP K F H z.2 v
def RO(m:List Addr)(a:Addr):SO->Prop
 | .lst d=>∃xs,H a=some (.lst xs)/\dQ K F H m d xs
 | .dct s d=>∃k,H a=some (.dK k)/\k.map (·.1)=s/\dQ K F H m d (k.map (·.2))
 | .fz v=>RP K F H v (.ref a)
 | .ins c s d=>∃C h k,bo K mainGlobals c=some (some (.ref C))/\H a=some (.ins C h k)/\k.map (·.1)=s/\dQ K F H m d (k.map (·.2))
 | .dtt s d=>∃k,H a=some (.dT k)/\k.map (·.1)=s/\dQ K F H m d (k.map (·.2))
 | .tpl d=>∃xs,H a=some (.tup xs)/\dQ K F H m d xs
 | .exc c x=>∃C o,bo K mainGlobals c=some (some (.ref C))/\H a=some (.ext (fO a C o))/\XD K F H x o
def SO.own:SO->Prop
 | .fz _=>False
 |_=>True
structure Rel(m:List Addr)(S:aL):Prop where
 len:m.length=S.length
 nd:m.Nodup
 obj:∀(i:Nat) a o,m[i]? = some a->S[i]? = some o->RO K F H m a o
 sep:∀(i:Nat) a o,m[i]? = some a->S[i]? = some o->o.own->¬F a
 trk:∀a ∈ m,H a≠none
 ft:∀a,F a->H a≠none
end
structure Kp(F:Aa)(m:List Addr)(H:Hp)(F':Aa)(m':List Addr)(H':Hp):Prop where
 pre:∃n,m'=m++n
 frz:∀b,F b->F' b
 frk:∀b o,F b->H b=some o->H' b=some o
 tup:∀b xs,H b=some (.tup xs)->H' b=some (.tup xs)
structure Stp(F:Aa)(m:List Addr)(H:Hp)(F':Aa)(m':List Addr)(H':Hp):Prop where
 pre:∃n,m'=m++n
 oth:∀b o,H b=some o->b ∉ m->H' b=some o
 frz:∀b,F b->F' b
 frk:∀b o,F b->H b=some o->H' b=some o
 tup:∀b xs,H b=some (.tup xs)->H' b=some (.tup xs)
 trk:∀b,H b≠none->H' b≠none
 nf:∀b,F' b->F b\/H b=none\/b ∈ m
 nm:∀b,b ∈ m'->b ∈ m\/H b=none
variable{F':Aa}{m:List Addr}{m':List Addr}{H':Hp}
theorem Stp.kp(s:Stp F m H F' m' H'):Kp F m H F' m' H':=⟨s.pre,s.frz,s.frk,s.tup⟩
theorem Stp.refl:Stp F m H F m H:=
 ⟨⟨[],by simp⟩,λ_ _ h _=>h,λ_ h=>h,λ_ _ _ h=>h,λ_ _ h=>h,λ_ h=>h,λ_ h=>.inl h,λ_ h=>.inl h⟩
theorem Stp.trans(a:Stp F m H j k y)(b:Stp j k y C r I):Stp F m H C r I where
 pre:=by obtain⟨f,s⟩:=a.pre;obtain⟨t,n⟩:=b.pre;exact⟨f++t,by rw[n,s,di]⟩
 oth:=λc o h x=>b.oth c o (a.oth c o h x) λz=>by
  rcases a.nm c z with z|z
  .exact x z
  .rw [h]at z;cases z
 frz:=λc h=>b.frz c (a.frz c h)
 frk:=λc o h e=>b.frk c o (a.frz c h) (a.frk c o h e)
 tup:=λc xs h=>b.tup c xs (a.tup c xs h)
 trk:=λc h=>b.trk c (a.trk c h)
 nf:=λc h=>by
  rcases b.nf c h with h|h|h
  .exact a.nf c h
  .by_cases e:H c=none
   .exact .inr (.inl e)
   .exact absurd h (a.trk c e)
  .rcases a.nm c h with h|h
   .exact .inr (.inr h)
   .exact .inr (.inl h)
 nm:=λc h=>by
  rcases b.nm c h with h|h
  .exact a.nm c h
  .by_cases e:H c=none
   .exact .inr e
   .exact absurd h (a.trk c e)
section
variable{K:FG}{F F':Aa}{H H':Hp}{m m':List Addr}{S N:aL}
theorem TupAt.kp(s:Kp F m H F' m' H')(h:TupAt K H a xs):TupAt K H' a xs:=by
 rcases h with h|h
 .exact .inl (s.tup _ _ h)
 .exact .inr h
theorem LstAt.kp(s:Kp F m H F' m' H')(h:LstAt F H a xs):LstAt F' H' a xs:=⟨s.frz _ h.1,s.frk _ _ h.1 h.2⟩
theorem zA.kp(s:Kp F m H F' m' H')(h:zA K F H a xs):zA K F' H' a xs:=by
 rcases h with ⟨f,o,h⟩|h
 .exact .inl ⟨s.frz _ f,o,s.frk _ _ f h⟩
 .exact .inr h
mutual
theorem RP.kp(s:Kp F m H F' m' H'):∀{d:P}{v:V},RP K F H d v->RP K F' H' d v
 | .non,_,h=>h
 | .bl _,_,h=>h
 | .int _,_,h=>h
 | .str _,_,h=>h
 | .tup _,_,h=>by obtain⟨a,xs,e,t,r⟩:=h;exact⟨a,xs,e,t.kp s,cI.kp s r⟩
 | .lst _,_,h=>by obtain⟨a,xs,e,t,r⟩:=h;exact⟨a,xs,e,t.kp s,cI.kp s r⟩
 | .ro _,_,h=>by obtain⟨a,xs,e,t,r⟩:=h;exact⟨a,xs,e,t.kp s,cI.kp s r⟩
 | .dct _ _,_,h=>by obtain⟨a,kvs,e,f,t,k,r⟩:=h;exact⟨a,kvs,e,s.frz _ f,s.frk _ _ f t,k,cI.kp s r⟩
theorem cI.kp(s:Kp F m H F' m' H'):∀{ds:List P}{xs:List V},cI K F H ds xs->cI K F' H' ds xs
 | [],_,h=>h
 |_::_,_,h=>by obtain⟨x,r,e,h1,h2⟩:=h;exact⟨x,r,e,RP.kp s h1,cI.kp s h2⟩
end
theorem RD.kp(s:Kp F m H F' m' H'):∀{d:D}{v:V},RD K F H m d v->RD K F' H' m' d v
 | .p _,_,h=>RP.kp s h
 | .ref i,_,h=>by obtain⟨a,e,h⟩:=h;obtain⟨n,x⟩:=s.pre;refine⟨a,e,?_⟩;rw[x];have k:i < m.length:=(bt.mp h).1;rw[d1 k];exact h
theorem dQ.kp(s:Kp F m H F' m' H'):∀{d:List D}{xs:List V},dQ K F H m d xs->dQ K F' H' m' d xs
 | [],_,h=>h
 |_::_,_,h=>by obtain⟨x,r,e,a,n⟩:=h;exact⟨x,r,e,RD.kp s a,dQ.kp s n⟩
variable{d:P}{v:V}
theorem RP.mono(s:Stp F m H F' m' H')(h:RP K F H d v):RP K F' H' d v:=RP.kp s.kp h
theorem cI.mono(s:Stp F m H F' m' H'){d:List P}{v:List V}(h:cI K F H d v):cI K F' H' d v:=cI.kp s.kp h
theorem RD.mono(s:Stp F m H F' m' H'){d:D}{v:V}(h:RD K F H m d v):RD K F' H' m' d v:=RD.kp s.kp h
theorem dQ.mono(s:Stp F m H F' m' H'){d:List D}{v:List V}(h:dQ K F H m d v):dQ K F' H' m' d v:=dQ.kp s.kp h
theorem cI.length:∀{d:List P}{xs:List V},cI K F H d xs->d.length=xs.length
 | [],_,h=>by rw[show _=([]:List V) from h]<;>rfl
 |_::_,_,h=>by obtain⟨x,r,e,_,a⟩:=h;rw[e,aS,aS,cI.length a]
theorem dQ.length:∀{d:List D}{xs:List V},dQ K F H m d xs->d.length=xs.length
 | [],_,h=>by rw[show _=([]:List V) from h]<;>rfl
 |_::_,_,h=>by obtain⟨x,r,e,_,a⟩:=h;rw[e,aS,aS,dQ.length a]
theorem cI.get:∀{s:List P}{xs:List V}{i:Nat}{d:P},cI K F H s xs->s[i]? = some d->∃x,xs[i]? = some x/\RP K F H d x
 | [],_,_,_,_,e=>by simp at e
 |_::_,_,0,_,h,e=>by obtain⟨x,r,rfl,n,_⟩:=h;simp at e;subst e;exact⟨x,rfl,n⟩
 |_::_,_,i+1,d,h,e=>by obtain⟨x,r,rfl,_,k⟩:=h;obtain⟨y,a,f⟩:=cI.get (i:=i) k (by simpa using e);exact⟨y,by simpa using a,f⟩
theorem cI.append:∀{d u:List P}{xs y:List V},cI K F H d xs->cI K F H u y->cI K F H (d++u) (xs++y)
 | [],_,_,_,h,g=>by rw[show _=([]:List V) from h];exact g
 |_::_,_,_,_,h,g=>by obtain⟨x,r,rfl,a,e⟩:=h;exact⟨x,r++_,rfl,a,cI.append e g⟩
theorem dQ.append:∀{d u:List D}{xs y:List V},dQ K F H m d xs->dQ K F H m u y->dQ K F H m (d++u) (xs++y)
 | [],_,_,_,h,g=>by rw[show _=([]:List V) from h];exact g
 |_::_,_,_,_,h,g=>by obtain⟨x,r,rfl,a,e⟩:=h;exact⟨x,r++_,rfl,a,dQ.append e g⟩
theorem cI.take:∀(n:Nat){d:List P}{xs:List V},cI K F H d xs->cI K F H (d.take n) (xs.take n)
 |0,_,_,_=>rfl
 |_+1,[],_,h=>by rw[show _=([]:List V) from h];rfl
 |n+1,_::_,_,h=>by obtain⟨x,r,rfl,a,e⟩:=h;exact⟨x,r.take n,rfl,a,cI.take n e⟩
theorem cI.drop:∀(n:Nat){d:List P}{xs:List V},cI K F H d xs->cI K F H (d.drop n) (xs.drop n)
 |0,_,_,h=>h
 |_+1,[],_,h=>by rw[show _=([]:List V) from h];rfl
 |n+1,_::_,_,h=>by obtain⟨x,r,rfl,_,a⟩:=h;exact cI.drop n a
theorem dQ.take:∀(n:Nat){d:List D}{xs:List V},dQ K F H m d xs->dQ K F H m (d.take n) (xs.take n)
 |0,_,_,_=>rfl
 |_+1,[],_,h=>by rw[show _=([]:List V) from h];rfl
 |n+1,_::_,_,h=>by obtain⟨x,r,rfl,a,e⟩:=h;exact⟨x,r.take n,rfl,a,dQ.take n e⟩
theorem dQ.get:∀{s:List D}{xs:List V}{i:Nat}{d:D},dQ K F H m s xs->s[i]? = some d->∃x,xs[i]? = some x/\RD K F H m d x
 | [],_,_,_,_,e=>by simp at e
 |_::_,_,0,_,h,e=>by obtain⟨x,r,rfl,n,_⟩:=h;simp at e;subst e;exact⟨x,rfl,n⟩
 |_::_,_,i+1,d,h,e=>by obtain⟨x,r,rfl,_,k⟩:=h;obtain⟨y,a,f⟩:=dQ.get (i:=i) k (by simpa using e);exact⟨y,by simpa using a,f⟩
theorem dQ.ofP:∀{d:List P}{xs:List V},cI K F H d xs->dQ K F H m (d.map .p) xs
 | [],_,h=>h
 |_::_,_,h=>by obtain⟨x,r,e,a,s⟩:=h;exact⟨x,r,e,a,dQ.ofP s⟩
variable{p:Addr}
theorem Rel.fresh_m(r:Rel K F H m S)(h:H p=none):p ∉ m:=λz=>r.trk p z h
theorem Rel.fresh_F(r:Rel K F H m S)(h:H p=none):¬F p:=λz=>r.ft p z h
variable{o:HO}
theorem ii(x:H p=none):Stp F m H F m (upd H p o) where
 pre:=⟨[],by simp⟩
 oth:=λb u h _=>by rw[aM (by rintro rfl;rw[x]at h;cases h)];exact h
 frz:=λ_ h=>h
 frk:=λb u _ h=>by rw[aM (by rintro rfl;rw[x]at h;cases h)];exact h
 tup:=λb u h=>by rw[aM (by rintro rfl;rw[x]at h;cases h)];exact h
 trk:=λb h=>by
  by_cases e:b=p
  .subst e;rw[aX];exact λz=>nomatch z
  .rw [aM e];exact h
 nf:=λ_ h=>.inl h
 nm:=λ_ h=>.inl h
theorem XD.kp(s:Kp F m H F' m' H')(h:XD K F H x k):XD K F' H' x k:=by
 cases x with
 |none=>exact h
 |some z=>obtain⟨a,v,e,f,d,r⟩:=h;exact⟨a,v,e,s.frz _ f,s.frk _ _ f d,RP.kp s r⟩
theorem RO.kp(s:Kp F m H F' m' H'){a:Addr}{o:SO}(k:∀u,H a=some u->H' a=some u)(h:RO K F H m a o):RO K F' H' m' a o:=by
 cases o with
 |lst d=>obtain⟨xs,e,r⟩:=h;exact⟨xs,k _ e,dQ.kp s r⟩
 |dct t d=>obtain⟨f,e,b,r⟩:=h;exact⟨f,k _ e,b,dQ.kp s r⟩
 |fz v=>exact RP.kp s (show RP K F H v (.ref a) from h)
 |ins c t d=>obtain⟨C,p,f,n,e,b,r⟩:=h;exact⟨C,p,f,n,k _ e,b,dQ.kp s r⟩
 |dtt t d=>obtain⟨f,e,b,r⟩:=h;exact⟨f,k _ e,b,dQ.kp s r⟩
 |tpl d=>obtain⟨xs,e,r⟩:=h;exact⟨xs,k _ e,dQ.kp s r⟩
 |exc c x=>obtain⟨C,q,n,e,r⟩:=h;exact⟨C,q,n,k _ e,r.kp s⟩
theorem RO.mono(s:Stp F m H F' m' H'){a:Addr}{o:SO}(k:∀u,H a=some u->H' a=some u)(h:RO K F H m a o):RO K F' H' m' a o:=RO.kp s.kp k h
theorem Rel.stayK(r:Rel K F H m S)(s:Kp F m H F' m H')(k:∀a u,a ∈ m->H a=some u->H' a=some u)(n:∀a,F' a->F a\/H a=none)(t:∀a,F' a->H' a≠none):Rel K F' H' m S where
 len:=r.len
 nd:=r.nd
 obj:=λi a o e x=>(r.obj i a o e x).kp s λu h=>k a u (dj e) h
 sep:=λi a o e x w f=>by
  rcases n a f with f|f
  .exact r.sep i a o e x w f
  .exact r.trk a (dj e) f
 trk:=λa h=>by
  cases q:H a with
  |none=>exact absurd q (r.trk a h)
  |some u=>rw[k a u h q];exact λz=>nomatch z
 ft:=t
theorem Rel.stay(r:Rel K F H m S)(s:Stp F m H F' m H')(k:∀a u,a ∈ m->H a=some u->H' a=some u)(n:∀a,F' a->F a\/H a=none)(t:∀a,F' a->H' a≠none):Rel K F' H' m S where
 len:=r.len
 nd:=r.nd
 obj:=λi a o e x=>(r.obj i a o e x).mono s λu h=>k a u (dj e) h
 sep:=λi a o e x w f=>by
  rcases n a f with f|f
  .exact r.sep i a o e x w f
  .exact r.trk a (dj e) f
 trk:=λa h=>s.trk a (r.trk a h)
 ft:=t
theorem Rel.new(r:Rel K F H m S)(x:H p=none):Rel K F (upd H p o) m S:=
 r.stay (ii x) (λa u e h=>by rw[aM (by rintro rfl;exact r.fresh_m x e)];exact h) (λ_ f=>.inl f) λa f=>(ii (F:=F) (m:=m) x).trk a (r.ft a f)
theorem ju{p:Addr}{o:HO}(x:H p=none):Stp F m H F (m++[p]) (upd H p o) where
 pre:=⟨[p],rfl⟩
 oth:=(ii (F:=F) (m:=m) (o:=o) x).oth
 frz:=λ_ h=>h
 frk:=(ii (F:=F) (m:=m) (o:=o) x).frk
 tup:=(ii (F:=F) (m:=m) (o:=o) x).tup
 trk:=(ii (F:=F) (m:=m) (o:=o) x).trk
 nf:=λ_ h=>.inl h
 nm:=λb h=>by
  rcases jq.mp h with h|h
  .exact .inl h
  .have:b=p:=by simpa using h
   subst this;exact .inr x
theorem Rel.own(r:Rel K F H m S){p:Addr}{o:HO}{so:SO}(n:H p=none)(q:RO K F (upd H p o) (m++[p]) p so):Rel K F (upd H p o) (m++[p]) (S++[so]) where
 len:=by rw[aN,aN,r.len];rfl
 nd:=by
  rw[wL];refine⟨r.nd,by simp,λa c b t e=>?_⟩;have:b=p:=by simpa using t
  subst this;subst e;exact r.fresh_m n c
 obj:=λi a u x s=>by
  by_cases k:i < m.length
  .rw [d1 k]at x;rw[d1 (by rw[<- r.len];exact k)]at s;exact(r.obj i a u x s).mono (ju n) λw h=>by rw[aM (by rintro rfl;rw[n]at h;cases h)];exact h
  .have l:i=m.length:=by
    have:=(bt.mp x).1;rw[aN]at this;simp at this;lia
   subst l;rw[gp (aw _)]at x;rw[r.len,gp (aw _)]at s;simp at x s;subst x;subst s;exact q
 sep:=λi a u x s w f=>by
  by_cases k:i < m.length
  .rw [d1 k]at x;rw[d1 (by rw[<- r.len];exact k)]at s;exact r.sep i a u x s w f
  .have l:i=m.length:=by
    have:=(bt.mp x).1;rw[aN]at this;simp at this;lia
   subst l;rw[gp (aw _)]at x;simp at x;subst x;exact r.fresh_F n f
 trk:=λa h=>by
  rcases jq.mp h with h|h
  .exact (ju (F:=F) (m:=m) n).trk a (r.trk a h)
  .have:a=p:=by simpa using h
   subst this;rw[aX];exact λz=>nomatch z
 ft:=λa f=>(ju (F:=F) (m:=m) n).trk a (r.ft a f)
variable{i:Nat}
theorem ig(r:Rel K F H m S)(x:m[i]? = some p)(s:S[i]? = some k)(w:k.own)(t:∀xs,H p≠some (.tup xs)):Stp F m H F m (upd H p o) where
 pre:=⟨[],by simp⟩
 oth:=λb u h a=>by rw[aM (by rintro rfl;exact a (dj x))];exact h
 frz:=λ_ h=>h
 frk:=λb u f h=>by rw[aM (by rintro rfl;exact r.sep i _ k x s w f)];exact h
 tup:=λb xs h=>by rw[aM (by rintro rfl;exact t xs h)];exact h
 trk:=λb h=>by
  by_cases e:b=p
  .subst e;rw[aX];exact λz=>nomatch z
  .rw [aM e];exact h
 nf:=λ_ h=>.inl h
 nm:=λ_ h=>.inl h
theorem tK(h:m.Nodup)(e:m[i]? = some a)(x:m[k]? = some a):i=k:=by exact(List.getElem?_inj (bt.mp e).1 h).mp (e.trans x.symm)
theorem Rel.set(r:Rel K F H m S){i:Nat}{p:Addr}{q b:SO}{o:HO}(s:m[i]? = some p)(k:S[i]? = some q)(c:q.own)(t:∀xs,H p≠some (.tup xs))(v:RO K F (upd H p o) m p b) :
  Rel K F (upd H p o) m (S.set i b) where
 len:=by rw[dM];exact r.len
 nd:=r.nd
 obj:=λj a u e x=>by
  by_cases n:i=j
  .subst n;rw[s]at e;cases e;rw[dm (by exact(bt.mp k).1)]at x;cases x;exact v
  .rw [cr n]at x;exact(r.obj j a u e x).mono (ig r s k c t) λw h=>by rw[aM (by rintro rfl;exact n (tK r.nd s e))];exact h
 sep:=λj a u e x w f=>by
  by_cases n:i=j
  .subst n;rw[s]at e;cases e;exact r.sep i p q s k c f
  .rw [cr n]at x;exact r.sep j a u e x w f
 trk:=λa h=>(ig (o:=o) r s k c t).trk a (r.trk a h)
 ft:=λa f=>(ig (o:=o) r s k c t).trk a (r.ft a f)
theorem mQ(x:p ∈ m):Stp F m H (λb=>F b\/b=p) m H:=
 ⟨⟨[],by simp⟩,fun _ _ h _=>h,fun _ h=>.inl h,fun _ _ _ h=>h,fun _ _ h=>h,fun _ h=>h,fun b h=>by
  rcases h with h|h
  .exact .inl h
  .subst h;exact .inr (.inr x),λ_ h=>.inl h⟩
theorem Rel.frz(r:Rel K F H m S){i:Nat}{p:Addr}{c:SO}{v:P}(n:m[i]? = some p)(k:S[i]? = some c)(o:RP K (λb=>F b\/b=p) H v (.ref p)):Rel K (λb=>F b\/b=p) H m (S.set i (.fz v)) where
 len:=by rw[dM];exact r.len
 nd:=r.nd
 obj:=λj a u x e=>by
  by_cases s:i=j
  .subst s;rw[n]at x;cases x;rw[dm (by exact(bt.mp k).1)]at e;cases e;exact o
  .rw [cr s]at e;exact(r.obj j a u x e).mono (mQ (dj n)) λw h=>h
 sep:=λj a u x e w f=>by
  by_cases s:i=j
  .subst s;rw[dm (by exact(bt.mp k).1)]at e;cases e;exact w
  .rw [cr s]at e;rcases f with f|f
   .exact r.sep j a u x e w f
   .subst f;exact s (tK r.nd n x)
 trk:=r.trk
 ft:=λa f=>by
  rcases f with f|f
  .exact r.ft a f
  .subst f;exact r.trk _ (dj n)
end
noncomputable abbrev EE:=Lc->aL->Option (D×aL)
noncomputable abbrev sP:=Option (D×aL)
noncomputable abbrev EV:=Lc->aL->Option (P×aL)
noncomputable abbrev tyV:=Option (P×aL)
noncomputable abbrev EB:=Lc->aL->Option (Bool×aL)
noncomputable abbrev IC:=Option (Bool×aL)
noncomputable abbrev gc:=Lc->aL->Option (List P×aL)
noncomputable abbrev DF:=Option (List P×aL)
inductive Fl where
 |nx|rt (d:D)|bk|ct
noncomputable abbrev ES:=Lc->aL->Option (Fl×Lc×aL)
noncomputable abbrev Al:=Option (Fl×Lc×aL)
variable{Q:Type}{β:Type}
noncomputable def bC(x:Option (Q×aL))(f:Q->aL->Option β):Option β:=match x with
 |some (a,S)=>f a S
 |none=>none
@[simp] theorem hB(a:Q)(S:aL)(f:Q->aL->Option β):bC (some (a,S)) f=f a S:=rfl
@[simp] theorem Lj(f:Q->aL->Option β):bC none f=none:=rfl
theorem ah{Q β:Type}{x:Option (Q×aL)}{f:Q->aL->Option β}{r:β}(h:bC x f=some r):∃a S,x=some (a,S)/\f a S=some r:=by
 cases x with
 |none=>cases h
 |some p=>exact⟨p.1,p.2,rfl,h⟩
def vb(f:D->aL->Option (P×aL)):List D->aL->Option (List P×aL)
 | [],S=>some ([],S)
 |d::r,S=>bC (f d S) λv h=>bC (vb f r h) λB x=>some (v::B,x)
def rB:Nat->D->aL->Option (P×aL)
 |_,.p v,S=>some (v,S)
 |0,.ref _,_=>none
 |n+1,.ref i,S=>match S[i]? with
  |some (.lst d)=>bC (vb (rB n) d S) λB h=>some (.lst B,h.set i (.fz (.lst B)))
  |some (.dct k d)=>bC (vb (rB n) d S) λB h=>some (.dct k B,h.set i (.fz (.dct k B)))
  |some (.fz v)=>some (v,S)
  |some (.ins _ _ _)=>none
  |some (.exc _ _)=>none
  |some (.tpl d)=>bC (vb (rB n) d S) λB h=>some (.tup B,h.set i (.fz (.tup B)))
  |some (.dtt _ _)=>none
  |none=>none
@[simp] theorem Ar(n:Nat)(v:P)(S:aL):rB n (.p v) S=some (v,S):=by cases n<;>rfl
theorem x4(n:Nat):∀(B:List P)(S:aL),vb (rB n) (B.map .p) S=some (B,S)
 | [],_=>rfl
 |v::r,S=>by simp[vb,x4 n r S]
variable{n:Nat}{S:aL}{B:List P}
theorem xP(h:S[i]? = some (.lst (B.map .p))):rB (n+1) (.ref i) S=some (.lst B,S.set i (.fz (.lst B))):=by simp[rB,h,x4]
section
variable{K:FG}{F:Aa}{H:Hp}{m:List Addr}{S N:aL}
theorem mS 
  (n:∀{d:D}{x:V}{v:P}{F:Aa}{S N:aL},f d S=some (v,N)->Rel K F H m S->RD K F H m d x->∃F',Stp F m H F' m H/\Rel K F' H m N/\N.length=S.length/\RP K F' H v x) :
  ∀{s:List D}{xs:List V}{B:List P}{F:Aa}{S N:aL},vb f s S=some (B,N)->Rel K F H m S->dQ K F H m s xs->∃F',Stp F m H F' m H/\Rel K F' H m N/\N.length=S.length/\cI K F' H B xs
 | [],xs,B,F,S,N,h,r,a=>by cases h;exact⟨F,.refl,r,rfl,a⟩
 |d::s,xs,B,F,S,N,h,r,a=>by obtain⟨x,z,e,p,q⟩:=a;obtain⟨v,o,c,h⟩:=ah h;obtain⟨E,A,t,h⟩:=ah h;cases h;obtain⟨j,k,i,l,u⟩:=n c r p;obtain⟨C,b,y,w,g⟩:=mS n t i (dQ.mono k q);exact⟨C,k.trans b,y,w.trans l,x,z,e,RP.mono b u,g⟩
theorem k_:∀(n:Nat){d:D}{x:V}{v:P}{F:Aa}{S N:aL},rB n d S=some (v,N)->Rel K F H m S->RD K F H m d x->∃F',Stp F m H F' m H/\Rel K F' H m N/\N.length=S.length/\RP K F' H v x
 |n,.p w,x,v,F,S,N,h,r,E=>by rw[Ar]at h;cases h;exact⟨F,.refl,r,rfl,E⟩
 |0,.ref i,x,v,F,S,N,h,r,E=>by cases h
 |n+1,.ref i,x,v,F,S,N,h,r,E=>by
  obtain⟨a,e,f⟩:=E;subst e;have t:i < S.length:=by rw[<- r.len];exact(bt.mp f).1
  obtain⟨o,L⟩:∃o,S[i]? = some o:=⟨S[i],by simp[t]⟩;have C:=r.obj i a o f L;simp only[rB,L]at h;cases o with
  |fz w=>cases h;exact⟨F,.refl,r,rfl,C⟩
  |ins c M G=>cases h
  |exc c x=>cases h
  |dtt _ _=>cases h
  |lst G=>obtain⟨B,k,p,h⟩:=ah h;cases h;obtain⟨xs,u,z⟩:=C;obtain⟨j,A,y,l,g⟩:=mS (λh=>k_ n h) p r z;obtain⟨Q,s⟩:∃o,k[i]? = some o:=⟨k[i]'(by rw[l];exact t),by simp[l,t]⟩;have st:Stp j m H (λb=>j b\/b=a) m H:=mQ (dj f);have q:RP K (λb=>j b\/b=a) H (.lst B) (.ref a):=⟨a,xs,rfl,⟨.inr rfl,u⟩,cI.mono st g⟩;exact⟨_,A.trans st,y.frz f s q,by rw[dM];exact l,q⟩
  |tpl G=>obtain⟨B,k,p,h⟩:=ah h;cases h;obtain⟨xs,u,z⟩:=C;obtain⟨j,A,y,l,g⟩:=mS (λh=>k_ n h) p r z;obtain⟨Q,s⟩:∃o,k[i]? = some o:=⟨k[i]'(by rw[l];exact t),by simp[l,t]⟩;have st:Stp j m H (λb=>j b\/b=a) m H:=mQ (dj f);have q:RP K (λb=>j b\/b=a) H (.tup B) (.ref a):=⟨a,xs,rfl,.inl u,cI.mono st g⟩;exact⟨_,A.trans st,y.frz f s q,by rw[dM];exact l,q⟩
  |dct M G=>obtain⟨B,k,p,h⟩:=ah h;cases h;obtain⟨I,u,R,z⟩:=C;obtain⟨j,A,y,l,g⟩:=mS (λh=>k_ n h) p r z;obtain⟨Q,s⟩:∃o,k[i]? = some o:=⟨k[i]'(by rw[l];exact t),by simp[l,t]⟩;have st:Stp j m H (λb=>j b\/b=a) m H:=mQ (dj f);have q:RP K (λb=>j b\/b=a) H (.dct M B) (.ref a):=⟨a,I,rfl,.inr rfl,u,R,cI.mono st g⟩;exact⟨_,A.trans st,y.frz f s q,by rw[dM];exact l,q⟩
end
structure Grow(F:Aa)(H:Hp)(F':Aa)(H':Hp):Prop where
 keep:∀b o,H b=some o->H' b=some o
 frz:∀b,F b->F' b
 nf:∀b,F' b->F b\/(H b=none/\H' b≠none)
section
variable{K:FG}{F F' j C:Aa}{H H' y I:Hp}{m:List Addr}{S N:aL}
theorem Grow.refl:Grow F H F H:=⟨λ_ _ h=>h,λ_ h=>h,λ_ h=>.inl h⟩
theorem Grow.stp(g:Grow F H F' H'):Stp F m H F' m H' where
 pre:=⟨[],by simp⟩
 oth:=λb o h _=>g.keep b o h
 frz:=g.frz
 frk:=λb o _ h=>g.keep b o h
 tup:=λb xs h=>g.keep b _ h
 trk:=λb h=>by
  cases q:H b with
  |none=>exact absurd q h
  |some o=>rw[g.keep b o q];exact λz=>nomatch z
 nf:=λb h=>by
  rcases g.nf b h with h|⟨h,_⟩
  .exact .inl h
  .exact .inr (.inl h)
 nm:=λ_ h=>.inl h
theorem Rel.grow(r:Rel K F H m S)(g:Grow F H F' H'):Rel K F' H' m S:=
 r.stay g.stp (fun a u _ h=>g.keep a u h) (fun a f=>by
  rcases g.nf a f with f|⟨f,_⟩
  .exact .inl f
  .exact .inr f) λa f=>by
  rcases g.nf a f with f|⟨_,f⟩
  .exact (g.stp (m:=m)).trk a (r.ft a f)
  .exact f
theorem bQ{p:Addr}{o:HO}(x:H p=none):Grow F H F (upd H p o):=
 ⟨λb u h=>by rw[aM (by rintro rfl;rw[x]at h;cases h)];exact h,λ_ h=>h,λ_ h=>.inl h⟩
theorem bY{p:Addr}{o:HO}(x:H p=none):Grow F H (λb=>F b\/b=p) (upd H p o):=
 ⟨fun b u h=>by rw [aM (by rintro rfl;rw [x] at h;cases h)];exact h,fun _ h=>.inl h,fun b h=>by
  rcases h with h|h
  .exact .inl h
  .subst h;exact .inr ⟨x,by rw[aX];exact λz=>nomatch z⟩⟩
theorem RP.grow(g:Grow F H F' H')(h:RP K F H d v):RP K F' H' d v:=RP.mono (m:=[]) g.stp h
theorem cI.grow(g:Grow F H F' H')(h:cI K F H d v):cI K F' H' d v:=cI.mono (m:=[]) g.stp h
theorem RP.newTup(x:H p=none)(r:cI K F H h xs):RP K F (upd H p (.tup xs)) (.tup h) (.ref p):=⟨p,xs,rfl,.inl aX,r.grow (bQ x)⟩
theorem RP.newLst(x:H p=none)(r:cI K F H h xs):RP K (λb=>F b\/b=p) (upd H p (.lst xs)) (.lst h) (.ref p):=⟨p,xs,rfl,⟨.inr rfl,aX⟩,r.grow (bY x)⟩
end
@[simp] def vC(v:P)(_L:Lc)(S:aL):tyV:=some (v,S)
def ej(i:Nat)(L:Lc)(S:aL):sP:=match L[i]? with
 |some (some d)=>some (d,S)
 |_=>none
@[simp] def vE(f:EE)(L:Lc)(S:aL):tyV:=bC (f L S) (rB 9)
@[simp] def U(f:EV)(L:Lc)(S:aL):sP:=bC (f L S) λv h=>some (.p v,h)
@[simp] def oy(g:P->P->Option P)(a b:EV)(L:Lc)(S:aL):tyV:=bC (a L S) λx h=>bC (b L h) λy e=>(g x y).map λv=>(v,e)
@[simp] def yH(g:P->Option P)(a:EV)(L:Lc)(S:aL):tyV:=bC (a L S) λx h=>(g x).map λv=>(v,h)
@[simp] def bV(a:EV)(L:Lc)(S:aL):IC:=bC (a L S) λx h=>match x with
 | .bl b=>some (b,h)
 |_=>none
@[simp] def cE(a b:EB)(L:Lc)(S:aL):IC:=bC (a L S) λc h=>if c=true then b L h else some (false,h)
@[simp] def on(a b:EB)(L:Lc)(S:aL):IC:=bC (a L S) λc h=>if c=true then some (true,h) else b L h
@[simp] def kL(a:EB)(L:Lc)(S:aL):IC:=bC (a L S) λc h=>some (!c,h)
@[simp] def vB(a:EB)(L:Lc)(S:aL):tyV:=bC (a L S) λc h=>some (.bl c,h)
@[simp] def Fw(c:EB)(a b:EV)(L:Lc)(S:aL):tyV:=bC (c L S) λk h=>if k=true then a L h else b L h
@[simp] def d_(_L:Lc)(S:aL):DF:=some ([],S)
@[simp] def aH(a:EV)(r:gc)(L:Lc)(S:aL):DF:=bC (a L S) λx h=>bC (r L h) λxs e=>some (x::xs,e)
@[simp] def ck(g:List P->Option P)(a:gc)(L:Lc)(S:aL):tyV:=bC (a L S) λxs h=>(g xs).map λv=>(v,h)
@[simp] def c_(L:Lc)(S:aL):Al:=some (.nx,L,S)
@[simp] def aj(f g:ES)(L:Lc)(S:aL):Al:=match f L S with
 |some (.nx,h,x)=>g h x
 |r=>r
@[simp] def aP(i:Nat)(f:EE)(L:Lc)(S:aL):Al:=bC (f L S) λd h=>some (.nx,L.set i (some d),h)
@[simp] def bw(f:EE)(L:Lc)(S:aL):Al:=bC (f L S) λd h=>some (.rt d,L,h)
@[simp] def aQ(f:EE)(L:Lc)(S:aL):Al:=bC (f L S) λ_ h=>some (.nx,L,h)
@[simp] def bS(c:EB)(a b:ES)(L:Lc)(S:aL):Al:=bC (c L S) λk h=>if k=true then a L h else b L h
noncomputable def bj:ES:=λ_ _=>none
@[simp] def QF(L:Lc)(S:aL):Al:=some (.bk,L,S)
noncomputable def J0:ES:=λL S=>some (.ct,L,S)
noncomputable abbrev jD:=P->Lc->Option Lc
noncomputable def g6(i:Nat):jD:=λv L=>some (L.set i (some (.p v)))
noncomputable def et(g:jD)(b:ES):List P->Lc->aL->Option (Fl×Lc×aL)
 | [],L,S=>some (.nx,L,S)
 |v::r,L,S=>match g v L with
  |none=>none
  |some a=>match b a S with
   |some (.nx,L2,h)=>et g b r L2 h
   |some (.ct,L2,h)=>et g b r L2 h
   |some (.bk,L2,h)=>some (.nx,L2,h)
   |x=>x
@[simp] def tm(i:gc)(g:jD)(b:ES)(L:Lc)(S:aL):Al:=bC (i L S) λxs h=>et g b xs L h
def aV(c:EB)(b:ES):Nat->Lc->aL->Option (Fl×Lc×aL)
 |0,_,_=>none
 |n+1,L,S=>bC (c L S) λk a=>if k=true then match b L a with
   |some (.nx,L2,h)=>aV c b n L2 h
   |some (.ct,L2,h)=>aV c b n L2 h
   |some (.bk,L2,h)=>some (.nx,L2,h)
   |x=>x
  else some (.nx,L,a)
def dR(n:Nat)(c:EB)(b:ES):ES:=aV c b n
open PySem PySem.Spec PyProof.Rows L2
section
variable(K:FG)
structure RL(F:Aa)(H:Hp)(m:List Addr)(J:L2.St)(L:Lc):Prop where
 len:J.length=L.length
 at':∀(i:Nat) d,L[i]? = some (some d)->∃v,J[i]? = some (some v)/\RD K F H m d v
inductive tEI(f:EE)(J:L2.St)(H:Hp)(Q:VK):Prop
 |mk (F:Aa) (m:List Addr) (L:Lc) (S:aL) (d:D) (S':aL) (h0_:Rel K F H m S) (h1_:RL K F H m J L) (h2_:f L S=some (d,S')) (h3_:∀v F' m' H',Stp F m H F' m' H'->Rel K F' H' m' S'->RD K F' H' m' d v->Q v H'):tEI f J H Q
noncomputable def tE(f:EE):TE:=λJ H Q=>tEI K f J H Q
inductive tVI(f:EV)(J:L2.St)(H:Hp)(Q:VK):Prop
 |mk (F:Aa) (m:List Addr) (L:Lc) (S:aL) (d:P) (S':aL) (h0_:Rel K F H m S) (h1_:RL K F H m J L) (h2_:f L S=some (d,S')) (h3_:∀v F' m' H',Stp F m H F' m' H'->Rel K F' H' m' S'->RP K F' H' d v->Q v H'):tVI f J H Q
noncomputable def tV(f:EV):TE:=λJ H Q=>tVI K f J H Q
inductive tQI(f:EB)(J:L2.St)(H:Hp)(Q:Bool->Hp->Prop):Prop
 |mk (F:Aa) (m:List Addr) (L:Lc) (S:aL) (b:Bool) (S':aL) (h0_:Rel K F H m S) (h1_:RL K F H m J L) (h2_:f L S=some (b,S')) (h3_:∀F' m' H',Stp F m H F' m' H'->Rel K F' H' m' S'->Q b H'):tQI f J H Q
noncomputable def tQ(f:EB):TT:=λJ H Q=>tQI K f J H Q
inductive tVsI(f:gc)(J:L2.St)(H:Hp)(Q:List V->Hp->Prop):Prop
 |mk (F:Aa) (m:List Addr) (L:Lc) (S:aL) (ds:List P) (S':aL) (h0_:Rel K F H m S) (h1_:RL K F H m J L) (h2_:f L S=some (ds,S')) (h3_:∀xs F' m' H',Stp F m H F' m' H'->Rel K F' H' m' S'->cI K F' H' ds xs->Q xs H'):tVsI f J H Q
noncomputable def sQ(f:gc):TA:=λJ H Q=>tVsI K f J H Q
def MU(D:Ends)(F:Aa)(m:List Addr)(J:L2.St)(H:Hp):Fl->Prop
 | .nx=>D.nx J H
 | .bk=>D.bk J H
 | .ct=>D.ct J H
 | .rt d=>∀v,RD K F H m d v->D.rt v H
inductive tStI(f:ES)(D:Ends)(J:L2.St)(H:Hp):Prop
 |mk (F:Aa) (m:List Addr) (L:Lc) (S:aL) (fl:Fl) (L':Lc) (S':aL) (h0_:Rel K F H m S) (h1_:RL K F H m J L) (h2_:f L S=some (fl,L',S')) (h3_:∀J' F' m' H',Stp F m H F' m' H'->Rel K F' H' m' S'->RL K F' H' m' J' L'->MU K D F' m' J' H' fl):tStI f D J H
noncomputable def iG(f:ES):TS:=λD J H=>tStI K f D J H
end
section
variable{K:FG}{F F':Aa}{H H':Hp}{m m':List Addr}{J:L2.St}{L:Lc}{S:aL}
theorem RL.mono(s:Stp F m H F' m' H')(h:RL K F H m J L):RL K F' H' m' J L:=⟨h.len,λi d e=>by obtain⟨v,x,r⟩:=h.at' i d e;exact⟨v,x,RD.mono s r⟩⟩
theorem RL.set (h:RL K F H m J L) (r:RD K F H m d v) (i:Nat):RL K F H m (J.set i (some v)) (L.set i (some d)):=⟨by rw [dM,dM];exact h.len,fun j e q=>by
 by_cases x:i=j
 .subst x;by_cases a:i < L.length
  .rw [dm a]at q;cases q;exact⟨v,dm (by rw[h.len];exact a),r⟩
  .rw [qK (by rw[dM];lia)]at q;cases q
 .rw [cr x]at q;rw[cr x];exact h.at' j e q⟩
end
section
variable{X:Cx}{e:Expr}{u:Ab}{st:Stmt}{sts:List Stmt}
theorem _root_.L2.PE.imp'(h:PE X e t)(i:∀J H Q,k J H Q->t J H Q):PE X e k:=λp s J H Q I q=>h p s J H Q I (i J H Q q)
theorem _root_.L2.PT.imp'(h:PT X e t)(i:∀J H Q,k J H Q->t J H Q):PT X e k:=λp s J H Q I q=>h p s J H Q I (i J H Q q)
theorem _root_.L2.PW.imp'(h:PW X e t)(i:∀J H Q,k J H Q->t J H Q):PW X e k:=λw p s J H Q I q=>h w p s J H Q I (i J H Q q)
theorem _root_.L2.PA.imp'(h:PA X u t)(i:∀J H Q,k J H Q->t J H Q):PA X u k:=λM p s J H Q I q=>h M p s J H Q I (i J H Q q)
theorem _root_.L2.PS.imp'(h:PS X st t)(i:∀D J H,k D J H->t D J H):PS X st k:=λp s J H D I q=>h p s J H D I (i D J H q)
theorem _root_.L2.gb.imp'(h:gb X sts t)(i:∀D J H,k D J H->t D J H):gb X sts k:=λp s J H D I q=>h p s J H D I (i D J H q)
end
section
variable{X:Cx}{a b c e:Expr}{u:Ab}{fa fb:EV}{fe:EE}{M:Pos}
theorem N6(h:PE X e (tE X.K fe)):PE X e (tV X.K (vE fe)):=h.imp' λJ H Q z=>by obtain⟨F,m,L,S,d,N,r,l,q,k⟩:=z;obtain⟨a,x,n,f⟩:=ah q;refine⟨F,m,L,S,a,x,r,l,n,λv F' m' H' s b t=>?_⟩;obtain⟨C,w,c,_,p⟩:=k_ 9 f b t;exact k v C m' H' (s.trans w) c p
theorem IB(h:PE X e (tV X.K fa)):PE X e (tE X.K (U fa)):=h.imp' λJ H Q z=>by obtain⟨F,m,L,S,d,N,r,l,q,k⟩:=z;obtain⟨x,c,a,n⟩:=ah q;cases n;exact⟨F,m,L,S,x,N,r,l,a,λv F' m' H' s f b=>k v F' m' H' s f b⟩
theorem Jl(i:Nat)(s:X.N[i]? = some x:=by rfl)(f:CA X.e.scope x:=by first|exact Or.inl rfl|exact Or.inr (Or.inl rfl)|exact Or.inr (Or.inr rfl))(n:(x == ("__debug__":Str))=false:=by decide)
  (h:(x == ("__classdict__":Str))=false:=by decide):PE X (.Name x M) (tE X.K (ej i)):=(rM s f n h).imp' λJ H Q z=>by
 obtain⟨F,m,L,S,d,N,r,l,q,k⟩:=z;unfold ej at q;split at q
 .rename_i c e;cases q;obtain⟨v,a,b⟩:=l.at' i _ e;exact⟨v,a,k v F m H .refl r b⟩
 .cases q
theorem xC(h:PE X e (tC v))(r:∀F H,RP X.K F H d v):PE X e (tV X.K (vC d)):=h.imp' λJ H Q z=>by obtain⟨F,m,L,S,a,N,x,l,q,k⟩:=z;cases q;exact k v F m H .refl x (r F H)
theorem MD {i h M}:PE X (.Constant (.int i) h M) (tV X.K (vC (.int i))):=xC GU λ_ _=>rfl
theorem OR {i h M}:PE X (.Constant (.bool i) h M) (tV X.K (vC (.bl i))):=xC Ki λ_ _=>rfl
theorem Mx {h M}:PE X (.Constant .none h M) (tV X.K (vC .non)):=xC GS λ_ _=>rfl
theorem Jm {i h M}:PE X (.Constant (.str i) h M) (tV X.K (vC (.str i))):=xC GP λ_ _=>rfl
inductive rPI(K:FG)(g:P->P->Option P)(x:V)(y:V)(H:Hp)(Q:VK):Prop
 |mk (F:Aa) (dx:P) (dy:P) (d:P) (h0_:(∀a,F a->H a≠none)) (h1_:RP K F H dx x) (h2_:RP K F H dy y) (h3_:g dx dy=some d) (h4_:∀v F' H',Grow F H F' H'->RP K F' H' d v->Q v H'):rPI K g x y H Q
noncomputable def rP(K:FG)(g:P->P->Option P):R2:=λx y H Q=>rPI K g x y H Q
def o0(X:Cx)(f:Value->Value->Sem Value)(g:P->P->Option P):Prop:=iT X f (rP X.K g)
theorem rF(h:tV X.K (oy g fa fb) J H t):Gq (rP X.K g) (tV X.K fa) (tV X.K fb) J H t:=by
 obtain⟨F,m,L,S,d,N,r,l,q,k⟩:=h;obtain⟨x,s,K,q⟩:=ah q;obtain⟨a,o,P,q⟩:=ah q;refine⟨F,m,L,S,x,s,r,l,K,λv j A y b M D=>?_⟩;refine⟨j,A,L,s,a,o,M,l.mono b,P,λu C B I c f E=>?_⟩;cases e:g x a with
 |none=>rw[e]at q;cases q
 |some z=>rw[e]at q;cases q;refine⟨C,x,a,_,f.ft,RP.mono c D,E,e,λw p i n G=>?_⟩;exact k w p B i (b.trans (c.trans n.stp)) (f.grow n) G
theorem ON(o:o0 X (binaryOp k) g)(x:PE X a (tV X.K fa))(e:PE X b (tV X.K fb)):PE X (.BinOp a k b M) (tV X.K (oy g fa fb)):=
 (Kg o x e).imp' λ_ _ _ h=>rF h
theorem MF(o:o0 X (compareOp k) g)(x:PE X a (tV X.K fa))(e:PE X b (tV X.K fb))(m:behindInMarks k b=false):PE X (.Compare a [k] [b] M) (tV X.K (oy g fa fb)):=
 (xY o x e m).imp' λ_ _ _ h=>rF h
theorem Au(h:tQ X.K (bV (oy g fa fb)) J H t):Fz (Gq (rP X.K g) (tV X.K fa) (tV X.K fb)) J H t:=by
 refine rF ?_;obtain⟨F,m,L,S,d,N,r,l,q,k⟩:=h;obtain⟨x,n,e,q⟩:=ah q;cases x with
 |bl b=>cases q;exact⟨F,m,L,S,_,_,r,l,e,λv F' m' H' s a p=>⟨_,p,k F' m' H' s a⟩⟩
 |_=>cases q
theorem Mo(o:o0 X (compareOp k) g)(x:PE X a (tV X.K fa))(e:PE X b (tV X.K fb))(m:behindInMarks k b=false):PT X (.Compare a [k] [b] M) (tQ X.K (bV (oy g fa fb))):=
 (xW o x e m).imp' λ_ _ _ h=>Au h
variable{z qb:EB}{cu:Ab}
theorem Jf(h:PT X a (tQ X.K z)):PW X (.BoolOp .And [a] M) (tQ X.K z):=D5 h
theorem Mm(h:PT X a (tQ X.K z)):PW X (.BoolOp .Or [a] M) (tQ X.K z):=GC h
theorem Mp(n:PT X a (tQ X.K z))(f:PW X (.BoolOp .And (b::cu) M) (tQ X.K qb)):PW X (.BoolOp .And (a::b::cu) M) (tQ X.K (cE z qb)):=
 (GD n f).imp' λJ H Q t=>by
  obtain⟨F,m,L,S,d,N,r,l,q,k⟩:=t;obtain⟨c,h,e,q⟩:=ah q;refine⟨F,m,L,S,c,h,r,l,e,λF' m' H' s x=>?_⟩;cases c with
  |true=>rw[ai rfl]at q ⊢;exact⟨F',m',L,h,d,N,x,l.mono s,q,λC p I w v=>k C p I (s.trans w) v⟩
  |false=>rw[ar bA]at q ⊢;cases q;exact k F' m' H' s x
theorem OJ(n:PT X a (tQ X.K z))(f:PW X (.BoolOp .Or (b::cu) M) (tQ X.K qb)):PW X (.BoolOp .Or (a::b::cu) M) (tQ X.K (on z qb)):=
 (Kb n f).imp' λJ H Q t=>by
  obtain⟨F,m,L,S,d,N,r,l,q,k⟩:=t;obtain⟨c,h,e,q⟩:=ah q;refine⟨F,m,L,S,c,h,r,l,e,λF' m' H' s x=>?_⟩;cases c with
  |false=>rw[ar bA]at q ⊢;exact⟨F',m',L,h,d,N,x,l.mono s,q,λC p I w v=>k C p I (s.trans w) v⟩
  |true=>rw[ai rfl]at q ⊢;cases q;exact k F' m' H' s x
theorem Mn(h:PT X a (tQ X.K z)):PT X (.UnaryOp .Not a M) (tQ X.K (kL z)):=
 (GG h).imp' λJ H Q x=>by obtain⟨F,m,L,S,d,N,r,l,q,k⟩:=x;obtain⟨c,f,e,q⟩:=ah q;cases q;exact⟨F,m,L,S,c,N,r,l,e,λF' m' H' s n=>k F' m' H' s n⟩
theorem Ju {k} (h:PE X a (tV X.K (vB z))):PE X (.BoolOp k [a] M) (tV X.K (vB z)):=GQ h
theorem sW(h:tQ X.K z J H k)(x:∀b H',k b H'->t (.bl b) H'):tV X.K (vB z) J H t:=by obtain⟨F,m,L,S,d,N,r,l,q,a⟩:=h;exact⟨F,m,L,S,.bl d,N,r,l,by unfold vB;rw[q];rfl,λv F' m' H' s e p=>by rw[show v=.bl d from p];exact x _ _ (a F' m' H' s e)⟩
theorem x0(h:tV X.K (vB z) J H k):tQ X.K z J H λb H'=>k (.bl b) H':=by obtain⟨F,m,L,S,d,N,r,l,q,x⟩:=h;obtain⟨c,n,e,q⟩:=ah q;cases q;exact⟨F,m,L,S,c,N,r,l,e,λF' m' H' s a=>x _ F' m' H' s a rfl⟩
theorem MG(f:PE X a (tV X.K (vB z)))(t:PE X (.BoolOp .And (b::cu) M) (tV X.K (vB qb))):PE X (.BoolOp .And (a::b::cu) M) (tV X.K (vB (cE z qb))):=
 (GY f t).imp' λJ H Q h=>by
  obtain⟨F,m,L,S,d,N,r,l,q,k⟩:=x0 h;obtain⟨c,x,n,q⟩:=ah q;refine sW (k:=λc y=>if c=true then tV X.K (vB qb) J y Q else Q (.bl false) y) ⟨F,m,L,S,c,x,r,l,n,λF' m' H' s e=>?_⟩ λb H' q=>⟨b,rfl,q⟩;cases c with
  |true=>rw[ai rfl]at q ⊢;exact sW (k:=λb I=>Q (.bl b) I) ⟨F',m',L,x,d,N,e,l.mono s,q,λC p I w v=>k C p I (s.trans w) v⟩ λ_ _ q=>q
  |false=>rw[ar bA]at q ⊢;cases q;exact k F' m' H' s e
theorem OM(f:PE X a (tV X.K (vB z)))(t:PE X (.BoolOp .Or (b::cu) M) (tV X.K (vB qb))):PE X (.BoolOp .Or (a::b::cu) M) (tV X.K (vB (on z qb))):=
 (Kf f t).imp' λJ H Q h=>by
  obtain⟨F,m,L,S,d,N,r,l,q,k⟩:=x0 h;obtain⟨c,x,n,q⟩:=ah q;refine sW (k:=λc y=>if c=true then Q (.bl true) y else tV X.K (vB qb) J y Q) ⟨F,m,L,S,c,x,r,l,n,λF' m' H' s e=>?_⟩ λb H' q=>⟨b,rfl,q⟩;cases c with
  |false=>rw[ar bA]at q ⊢;exact sW (k:=λb I=>Q (.bl b) I) ⟨F',m',L,x,d,N,e,l.mono s,q,λC p I w v=>k C p I (s.trans w) v⟩ λ_ _ q=>q
  |true=>rw[ai rfl]at q ⊢;cases q;exact k F' m' H' s e
theorem Mw(x:PE X a (tV X.K (vB z))):PE X (.UnaryOp .Not a M) (tV X.K (vB (kL z))):=
 (GR x).imp' λJ H Q h=>by obtain⟨F,m,L,S,d,N,r,l,q,k⟩:=x0 h;obtain⟨c,f,e,q⟩:=ah q;cases q;exact sW (k:=λb H'=>Q (.bl (!b)) H') ⟨F,m,L,S,c,N,r,l,e,λF' m' H' s n=>k F' m' H' s n⟩ λb H' q=>⟨b,rfl,q⟩
theorem xJ(h:PE X e (tV X.K fa)):PE X e (tV X.K (vB (bV fa))):=h.imp' λJ H Q h=>by
 obtain⟨F,m,L,S,d,N,r,l,q,k⟩:=x0 h;obtain⟨x,f,a,q⟩:=ah q;cases x with
 |bl b=>cases q;exact⟨F,m,L,S,_,_,r,l,a,λv F' m' H' s n p=>by cases (show v=.bl d from p);exact k F' m' H' s n⟩
 |_=>cases q
theorem OP(u:PT X c (tQ X.K z))(p:PE X a (tV X.K fa))(w:PE X b (tV X.K fb)):PE X (.IfExp c a b M) (tV X.K (Fw z fa fb)):=
 (A9 u p w).imp' λJ H Q g=>by
  obtain⟨F,m,L,S,d,N,r,l,q,k⟩:=g;obtain⟨c,h,t,q⟩:=ah q;refine⟨F,m,L,S,c,h,r,l,t,λF' m' H' s f=>?_⟩;cases c with
  |true=>rw[ai rfl]at q ⊢;exact⟨F',m',L,h,d,N,f,l.mono s,q,λv C x I n e=>k v C x I (s.trans n) e⟩
  |false=>rw[ar bA]at q ⊢;exact⟨F',m',L,h,d,N,f,l.mono s,q,λv C x I n e=>k v C x I (s.trans n) e⟩
variable{fs:gc}
theorem Lp:PA X [] (sQ X.K d_):=ij.imp' λJ H Q h=>by obtain⟨F,m,L,S,d,N,r,l,q,k⟩:=h;cases q;exact k [] F m H .refl r rfl
theorem yE(b:PE X e (tV X.K fa))(c:PA X u (sQ X.K fs))(t:starEach (e::u) X.e=(false,eval e X.e)::starEach u X.e:=by rfl):PA X (e::u) (sQ X.K (aH fa fs)):=
 (d4 b c t).imp' λJ H Q z=>by obtain⟨F,m,L,S,d,N,r,l,q,k⟩:=z;obtain⟨x,h,n,q⟩:=ah q;obtain⟨xs,P,f,q⟩:=ah q;cases q;refine⟨F,m,L,S,x,h,r,l,n,λv j p y s o g=>?_⟩;refine⟨j,p,L,h,xs,N,o,l.mono s,f,λB C w I a K i=>?_⟩;exact k (v::B) C w I (s.trans a) K ⟨v,B,rfl,RP.mono a g,i⟩
noncomputable def few(xs:List Q):Bool:=decide (xs.length≤1000000)
theorem se{Q:Type}{xs:List Q}(h:few xs=true):xs.length≤sizeLine:=bN (bq h) (by decide)
@[simp] def cD(a:gc)(L:Lc)(S:aL):tyV:=bC (a L S) λxs h=>if few xs=true then some (.tup xs,h) else none
@[simp] def eT(a:gc)(L:Lc)(S:aL):tyV:=bC (a L S) λxs h=>if few xs=true then some (.lst xs,h) else none
@[simp] def kC(a:gc)(L:Lc)(S:aL):sP:=bC (a L S) λxs h=>if few xs=true then some (.ref h.length,h++[.lst (xs.map .p)]) else none
theorem Mr {t} (h:PA X u (sQ X.K fs)):PE X (.Tuple u t M) (tV X.K (cD fs)):=(A5 h).imp' λJ H Q z=>by
 obtain⟨F,m,L,S,d,N,r,l,q,k⟩:=z;obtain⟨xs,c,e,q⟩:=ah q;split at q
 .rename_i f;cases q;refine⟨F,m,L,S,xs,N,r,l,e,λB j s y b n a=>⟨by rw[<- a.length];exact se f,λp x=>?_⟩⟩;exact k (.ref p) j s _ (b.trans (bQ x).stp) (n.grow (bQ x)) (.newTup x a)
 .cases q
theorem MA(h:PA X u (sQ X.K fs)):PE X (.List u M) (tV X.K (eT fs)):=(A7 h).imp' λJ H Q z=>by
 obtain⟨F,m,L,S,d,N,r,l,q,k⟩:=z;obtain⟨xs,c,e,q⟩:=ah q;split at q
 .rename_i f;cases q;refine⟨F,m,L,S,xs,N,r,l,e,λB j s y b n a=>⟨by rw[<- a.length];exact se f,λp x=>?_⟩⟩;exact k (.ref p) _ s _ (b.trans (bY x).stp) (n.grow (bY x)) (.newLst x a)
 .cases q
theorem Ft(h:PA X u (sQ X.K fs)):PE X (.List u M) (tE X.K (kC fs)):=(A7 h).imp' λJ H Q z=>by
 obtain⟨F,m,L,S,d,N,r,l,q,k⟩:=z;obtain⟨xs,f,b,q⟩:=ah q;split at q
 .rename_i c;cases q;refine⟨F,m,L,S,xs,f,r,l,b,λB j x y t s e=>⟨by rw[<- e.length];exact se c,λp a=>?_⟩⟩;have n:Stp j x y j (x++[p]) (upd y p (.lst B)):=ju a;refine k (.ref p) j (x++[p]) _ (t.trans n) (s.own a ⟨B,aX,dQ.ofP (cI.mono n e)⟩) ⟨p,rfl,?_⟩;rw[<- s.len,gp (aw _)];simp
 .cases q
def rC(K:FG)(g:List P->Option P):List V->Hp->VK->Prop:=λxs H Q=>∃F s d,(∀a,F a->H a≠none)/\cI K F H s xs/\g s=some d/\∀v F' H',Grow F H F' H'->RP K F' H' d v->Q v H'
theorem uW(h:tV X.K (ck g fs) J H t):sQ X.K fs J H λB y=>rC X.K g B y t:=by
 obtain⟨F,m,L,S,d,N,r,l,q,k⟩:=h;obtain⟨xs,c,s,q⟩:=ah q;cases e:g xs with
 |none=>rw[e]at q;cases q
 |some z=>rw[e]at q;cases q;exact⟨F,m,L,S,xs,_,r,l,s,λB j n y b a f=>⟨j,xs,_,a.ft,f,e,λv C I x p=>k v C n I (b.trans x.stp) (a.grow x) p⟩⟩
theorem z9{x:Str}{p:Pos}{id:String}{g:List P->Option P}(c:dc X (.builtin id) (rC X.K g))(n:Gl X x)(m:X.g x=none)(v:bootBuiltins x=some (.builtin id))(a:PA X (e::u) (sQ X.K fs))(k:x≠"__name__":=by decide)(d:(x == ("__debug__":Str))=false:=by decide)
  (s:starEach (e::u) X.e=(false,eval e X.e)::starEach u X.e:=by rfl) (l:(backTo M (starEach u X.e)).any (·.1)=false:=by rfl):PE X (.Call (.Name x p) (e::u) [] M) (tV X.K (ck g fs)):=
 (i7 c n m v a k d s l).imp' λ_ _ _ h=>uW h
theorem z8(c:dc X (.type T) (rC X.K g))(n:Gl X x)(m:X.g x=none)(v:bootBuiltins x=some (.type T))(a:PA X (e::u) (sQ X.K fs))(k:x≠"__name__":=by decide)(d:(x == ("__debug__":Str))=false:=by decide)
  (s:starEach (e::u) X.e=(false,eval e X.e)::starEach u X.e:=by rfl) (l:(backTo M (starEach u X.e)).any (·.1)=false:=by rfl):PE X (.Call (.Name x p) (e::u) [] M) (tV X.K (ck g fs)):=
 (yY c n m v a k d s l).imp' λ_ _ _ h=>uW h
noncomputable def LD(K:FG)(g:List P->Option P):Sp:=λB H Q _=>rC K g B H Q
theorem Jt(G:FnOk X.p X.w X.K X.g X.b ow k f t ps (LD X.K g))(y:Room k X.A)(w:Gl X x)(j:X.g x=some (.ref f))(i:eY X.K (.ref f)=true)(c:Binds X.K t ps [])
  (b:PA X (e::u) (sQ X.K fs)) (d:(x == ("__debug__":Str))=false:=by decide) (v:starEach (e::u) X.e=(false,eval e X.e)::starEach u X.e:=by rfl) (a:(backTo M (starEach u X.e)).any (·.1)=false:=by rfl) :
  PE X (.Call (.Name x p) (e::u) [] M) (tV X.K (ck g fs)):=
 (rO G y w j i c .nil o_ b d v a).imp' λJ H Q h=>by obtain⟨F,m,L,S,n,N,r,l,q,k⟩:=uW h;exact⟨F,m,L,S,n,N,r,l,q,λxs F' m' H' s z p=>by show LD X.K g (xs++[]) H' Q E0;rw[dZ];exact k xs F' m' H' s z p⟩
end
section
variable{X:Cx}{a b e:Expr}{st:Stmt}{cu bs cs:List Stmt}{f g:ES}{fe:EE}{z:EB}{M:Pos}
theorem Mh:gb X [] (iG X.K c_):=D6.imp' λD J H h=>by obtain⟨F,m,L,S,f,x,N,r,l,q,k⟩:=h;cases q;exact k J F m H .refl r l
theorem I_(z:PS X st (iG X.K f))(o:gb X cu (iG X.K g)):gb X (st::cu) (iG X.K (aj f g)):=(kq z o).imp' λD J H K=>by
 obtain⟨F,m,L,S,w,v,N,r,l,q,k⟩:=K;cases e:f L S with
 |none=>rw[show aj f g L S=none by unfold aj;rw[e]]at q;cases q
 |some x=>
  obtain⟨u,t,p⟩:=x;cases u with
  |nx=>
   have s:g t p=some (w,v,N):=by have:=q;unfold aj at this;rw[e]at this;exact this
   exact⟨F,m,L,S,.nx,t,p,r,l,e,λc j a y b n h=>⟨j,a,t,p,w,v,N,n,h,s,λi C A I E B P=>k i C A I (b.trans E) B P⟩⟩
  |rt d=>
   have s:some (Fl.rt d,t,p)=some (w,v,N):=by have:=q;unfold aj at this;rw[e]at this;exact this
   cases s;exact⟨F,m,L,S,_,_,_,r,l,e,λc j a y b n h=>k c j a y b n h⟩
  |bk=>
   have s:some (Fl.bk,t,p)=some (w,v,N):=by have:=q;unfold aj at this;rw[e]at this;exact this
   cases s;exact⟨F,m,L,S,_,_,_,r,l,e,λc j a y b n h=>k c j a y b n h⟩
  |ct=>
   have s:some (Fl.ct,t,p)=some (w,v,N):=by have:=q;unfold aj at this;rw[e]at this;exact this
   cases s;exact⟨F,m,L,S,_,_,_,r,l,e,λc j a y b n h=>k c j a y b n h⟩
theorem FV(h:PS X st (iG X.K f)):gb X [st] (iG X.K f):=mR h
theorem Mg(h:PE X e (tE X.K fe)):PS X (.Return (some e) M) (iG X.K (bw fe)):=(AW h).imp' λD J H z=>by obtain⟨F,m,L,S,b,n,N,r,l,q,k⟩:=z;obtain⟨d,f,x,q⟩:=ah q;cases q;exact⟨F,m,L,S,d,N,r,l,x,λv F' m' H' s a p=>k J F' m' H' s a (l.mono s) v p⟩
theorem I0(h:PE X e (tE X.K fe))(a:swapsWith e none M.line X.e=pure false:=by rfl):PS X (.Expr e M) (iG X.K (aQ fe)):=(xX h a).imp' λD J H z=>by obtain⟨F,m,L,S,c,f,N,r,l,q,k⟩:=z;obtain⟨d,b,x,q⟩:=ah q;cases q;exact⟨F,m,L,S,d,N,r,l,x,λv F' m' H' s n p=>k J F' m' H' s n (l.mono s)⟩
theorem yF(i:Nat)(n:X.N.Nodup)(h:PE X e (tE X.K fe))(b:X.N[i]? = some x:=by rfl)(w:Loc X.e.scope x:=by first|exact Or.inl rfl|exact Or.inr rfl)(c:swapsWith e (some (.Name x t)) M.line X.e=pure false:=by rfl)
  (f:X.fn x=true\/X.e.scope.names.lookup x=some .local:=by first|exact .inl rfl|exact .inr rfl|assumption):PS X (.Assign [.Name x t] e M) (iG X.K (aP i fe)):=
 (AV n b w h c f).imp' λD J H z=>by obtain⟨F,m,L,S,y,g,N,r,l,q,k⟩:=z;obtain⟨d,j,a,q⟩:=ah q;cases q;exact⟨F,m,L,S,d,N,r,l,a,λv F' m' H' s u p=>k (J.set i (some v)) F' m' H' s u ((l.mono s).set p i)⟩
theorem OH(i:PT X c (tQ X.K z))(w:gb X bs (iG X.K f))(u:gb X cs (iG X.K g)):PS X (.If c bs cs M) (iG X.K (bS z f g)):=(FC i w u).imp' λD J H j=>by
 obtain⟨F,m,L,S,p,t,N,r,l,q,k⟩:=j;obtain⟨c,x,d,q⟩:=ah q;refine⟨F,m,L,S,c,x,r,l,d,λF' m' H' s v=>?_⟩;cases c with
 |true=>rw[ai rfl]at q ⊢;exact⟨F',m',L,x,p,t,N,v,l.mono s,q,λh C e I b n a=>k h C e I (s.trans b) n a⟩
 |false=>rw[ar bA]at q ⊢;exact⟨F',m',L,x,p,t,N,v,l.mono s,q,λh C e I b n a=>k h C e I (s.trans b) n a⟩
theorem FW:PS X st (iG X.K bj):=AX.imp' λD J H h=>by obtain⟨F,m,L,S,f,x,N,r,l,q,k⟩:=h;cases q
theorem OI:PS X (.Continue M) (iG X.K J0):=tw.imp' λD J H h=>by obtain⟨F,m,L,S,f,x,N,r,l,q,k⟩:=h;cases q;exact k J F m H .refl r l
inductive gTI(K:FG)(g:jD)(x:V)(J:L2.St)(H:Hp)(Q:L2.St->Hp->Prop):Prop
 |mk (F:Aa) (m:List Addr) (L:Lc) (v:P) (L':Lc) (h0_:RL K F H m J L) (h1_:RP K F H v x) (h2_:g v L=some L') (h3_:∀J',RL K F H m J' L'->Q J' H):gTI K g x J H Q
noncomputable def gT(K:FG)(g:jD):TG:=λx J H Q=>gTI K g x J H Q
theorem _root_.L2.PG.imp'(h:PG X tg t)(i:∀v J H Q,k v J H Q->t v J H Q):PG X tg k:=λp s J H v u Q I r q=>h p s J H v u Q I r (i v J H Q q)
theorem HG(i:Nat)(h:X.N.Nodup)(a:X.N[i]? = some x:=by rfl)(e:Loc X.e.scope x:=by first|exact Or.inl rfl|exact Or.inr rfl)(f:X.fn x=true\/X.e.scope.names.lookup x=some .local:=by first|exact .inl rfl|exact .inr rfl|assumption) :
  PG X (.Name x M) (gT X.K (g6 i)):=(Ec h a e f).imp' λv J H Q z=>by
 obtain⟨F,m,L,d,s,l,p,q,k⟩:=z;cases q;exact k _ (l.set (d:=.p d) p i)
def FT(K:FG)(a:It)(B:List P)(F:Aa)(m:List Addr)(H:Hp):Prop:=∀C s I,Stp F m H C s I ->
 (∀(i:Nat) v,B[i]? = some v->a.go i I/\∀x h,a.yld i I x h->∃e,Grow C I e h/\RP K e h v x)/\a.stop B.length I
inductive tII(K:FG)(f:gc)(J:L2.St)(H:Hp)(R:It->Hp->Prop):Prop
 |mk (F:Aa) (m:List Addr) (L:Lc) (S:aL) (vs:List P) (S':aL) (h0_:Rel K F H m S) (h1_:RL K F H m J L) (h2_:f L S=some (vs,S')) (h3_:∀J9 F' m' H',Stp F m H F' m' H'->Rel K F' H' m' S'->FT K J9 vs F' m' H'->R J9 H'):tII K f J H R
noncomputable def tI(K:FG)(f:gc):TI:=λJ H R=>tII K f J H R
theorem Mi{tg iter:Expr}{fi:gc}{g:jD}{b:List Stmt}{fb:ES}(hp:PassesOwn (model X.p X.w) X.A X.e X.xe)(hc:X.c=true)(hi:PI X tg iter (tI X.K fi))(hg:PG X tg (gT X.K g))(hb:gb X b (iG X.K fb))
  (hs:∀x,foldedSetIterable iter X.e x=pure x:=by intro _;rfl):PS X (.For tg iter b [] M) (iG X.K (tm fi g fb)):=
 (GI hp hc hi hg hb hs).imp' λD J H hz=>by
  obtain⟨F,m,L,S,fl,L',N,r,l,q,k⟩:=hz;obtain⟨B,S1,e1,q⟩:=ah q;refine⟨F,m,L,S,B,S1,r,l,e1,fun J9 j u y A r1 it=>?_⟩;refine⟨fun i n R I=>n=B.length-i/\i≤B.length/\∃C s L2 f,Stp j u y C s I/\Rel X.K C I s f/\RL X.K C I s R L2/\et g fb (B.drop i) L2 f=some (fl,L',N),
   ⟨B.length,rfl,dn _,j,u,L,S1,.refl,r1,l.mono A,by rw[ke];exact q⟩,?_⟩
  rintro i n R I ⟨rfl,hi,C,s,L2,f,s2,r2,l2,a⟩;obtain⟨go,o⟩:=it C s I s2;by_cases t:i < B.length
  .right;have hv:B[i]? = some B[i]:=by simp[t]
   rw[wZ t]at a;obtain⟨hgo,hy⟩:=go i _ hv;refine⟨hgo,λJ3 c=>∃n',n' < B.length-i/\(n'=B.length-(i+1)/\i+1≤B.length/\∃C s L2 f,Stp j u y C s c/\Rel X.K C c s f/\RL X.K C c s J3 L2/\et g fb (B.drop (i+1)) L2 f=some (fl,L',N)),λ_ _ z=>z,λx c h=>?_⟩;obtain⟨Q,gr,p3⟩:=hy x c h;unfold et at a;cases eg:g B[i] L2 with
   |none=>rw[eg]at a;cases a
   |some T=>
    rw[eg]at a;dsimp only at a;refine⟨Q,s,L2,B[i],T,l2.mono gr.stp,p3,eg,λJ3 l3=>?_⟩;have E:Stp j u y Q s c:=s2.trans gr.stp;have r3:=r2.grow gr;cases Z:fb T f with
    |none=>rw[Z]at a;cases a
    |some z=>
     obtain⟨p,V,W⟩:=z;rw[Z]at a;refine⟨Q,s,T,f,p,V,W,r3,l3,Z,λJ4 v K H4 G P w=>?_⟩;cases p with
     |nx=>exact⟨B.length-(i+1),by lia,rfl,t,v,K,V,W,E.trans G,P,w,a⟩
     |ct=>exact⟨B.length-(i+1),by lia,rfl,t,v,K,V,W,E.trans G,P,w,a⟩
     |bk=>cases a;exact k J4 v K H4 (A.trans (E.trans G)) P w
     |rt d=>cases a;exact k J4 v K H4 (A.trans (E.trans G)) P w
  .left;have e:i=B.length:=by lia
   subst e;rw[qG]at a;cases a;exact⟨o,k R C s I (A.trans s2) r2 l2⟩
theorem FU(hp:PassesOwn (model X.p X.w) X.A X.e X.xe)(hc:PT X c (tQ X.K z))(hb:gb X t (iG X.K fb)):PS X (.While c t [] M) (iG X.K (dR n z fb)):=
 (tu hp hc hb).imp' λD J H hz=>by
  obtain⟨F,m,L,S,Q,G,N,r,l,q,k⟩:=hz;refine⟨λn y I=>∃C a L2 e,Stp F m H C a I/\Rel X.K C I a e/\RL X.K C I a y L2/\aV z fb n L2 e=some (Q,G,N),⟨n,F,m,L,S,.refl,r,l,q⟩,?_⟩;rintro n y I ⟨C,a,L2,e,p,r2,B,T⟩;cases n with
  |zero=>cases T
  |succ n=>
   obtain⟨c,K,Z,x⟩:=ah (show bC (z L2 e) _=_ from T);refine⟨C,a,L2,e,c,K,r2,B,Z,λE R W s V=>?_⟩;cases c with
   |false=>rw[ar bA]at x ⊢;cases x;exact k y E R W (p.trans s) V (B.mono s)
   |true=>
    rw[ai rfl]at x ⊢;cases A:fb L2 K with
    |none=>rw[A]at x;cases x
    |some h=>
     obtain⟨b,o,P⟩:=h;rw[A]at x;refine⟨λw f=>∃m',m' < n+1/\∃C a L2 e,Stp F m H C a f/\Rel X.K C f a e/\RL X.K C f a w L2/\aV z fb m' L2 e=some (Q,G,N),λ_ _ h=>h,E,R,L2,K,b,o,P,V,B.mono s,A,λw v g f j i u=>?_⟩;cases b with
     |nx=>exact⟨n,h7 _,v,g,o,P,p.trans (s.trans j),i,u,x⟩
     |ct=>exact⟨n,h7 _,v,g,o,P,p.trans (s.trans j),i,u,x⟩
     |bk=>cases x;exact k w v g f (p.trans (s.trans j)) i u
     |rt d=>cases x;exact k w v g f (p.trans (s.trans j)) i u
end
theorem Stp.toGrow(s:Stp F [] H F' m' H')(f:∀a,F' a->H' a≠none):Grow F H F' H':=
 ⟨fun b o h=>s.oth b o h (by simp),s.frz,fun b h=>by
  rcases s.nf b h with q|q|q
  .exact .inl q
  .exact .inr ⟨q,f b h⟩
  .simp at q⟩
theorem jI{Q:Prop}{β:Type}{d:β}(h:(none:Option β)=some d):Q:=nomatch h
noncomputable def iy(n:Nat):Bool:=decide (n≤1000000)
theorem fA(h:iy n=true):n≤sizeLine:=bN (bq h) (by decide)
section
variable{X:Cx}
def sE:P->P->Option P
 | .int i,.int j=>some (.int (i+j))
 | .str x,.str y=>if iy (x.length+y.length)=true then some (.str (x++y)) else none
 | .tup xs,.tup s=>if (!xs.isEmpty && iy (xs.length+s.length))=true then some (.tup (xs++s)) else none
 | .lst xs,.lst s=>if iy (xs.length+s.length)=true then some (.lst (xs++s)) else none
 |_,_=>none
theorem KG:o0 X (binaryOp .Add) sE:=by
 intro f s J H x y v n Q I o S h;obtain⟨F,E,w,d,L,g,l,q,k⟩:=h;cases E with
 |int i=>
  cases w with
  |int j=>cases q;cases (show x=.int i from g);cases (show y=.int j from l);exact G6 f s J H _ _ v n Q I o S ⟨i,j,rfl,rfl,k _ F H .refl rfl⟩
  |_=>exact jI q
 |str i=>
  cases w with
  |str j=>
   simp only[sE]at q;split at q
   .rename_i c;cases q;cases (show x=.str i from g);cases (show y=.str j from l);exact u9 f s J H _ _ v n Q I o S ⟨i,j,rfl,rfl,fA c,k _ F H .refl rfl⟩
   .cases q
  |_=>exact jI q
 |tup B=>
  cases w with
  |tup u=>
   simp only[sE]at q;split at q
   .rename_i c;rw[aC]at c;cases q;obtain⟨a,xs,rfl,K,r⟩:=g;obtain⟨b,A,rfl,P,t⟩:=l;have C:=r.length;have D:=t.length;have G:xs≠[]:=λz=>by
     subst z;have:B=[]:=gu C;subst this;simp at c
    refine Ei f s J H _ _ v n Q I o S ⟨a,b,xs,A,rfl,rfl,K.sq,P.sq,G,by rw[<- C,<- D];exact fA c.2,λz=>?_,λ_ p m=>?_⟩
    .subst z;have e:u=[]:=gu D;subst e;refine k _ F H .refl ?_;rw[dZ];exact⟨a,xs,rfl,K,r⟩
    .exact k _ F _ (bQ m) (.newTup m (r.append t))
   .cases q
  |_=>exact jI q
 |lst B=>
  cases w with
  |lst u=>
   simp only[sE]at q;split at q
   .rename_i c;cases q;obtain⟨a,xs,rfl,K,r⟩:=g;obtain⟨b,A,rfl,P,t⟩:=l;exact G5 f s J H _ _ v n Q I o S ⟨a,b,xs,A,rfl,rfl,K.2,P.2,by rw[<- r.length,<- t.length];exact fA c,λp m=>k _ _ _ (bY m) (.newLst m (r.append t))⟩
   .cases q
  |_=>exact jI q
 |_=>exact jI q
noncomputable def CK(c:Int->Int->Bool)(g:Int->Int->P):P->P->Option P
 | .int i,.int j=>if c i j=true then some (g i j) else none
 |_,_=>none
@[simp] theorem EW(c:Int->Int->Bool)(g:Int->Int->P)(i j:Int):CK c g (.int i) (.int j)=if c i j=true then some (g i j) else none:=rfl
theorem tH{f:Value->Value->Sem Value}{C:Int->Int->Prop}{a:Int->Int->V}{c:Int->Int->Bool}{g:Int->Int->P}(o:iT X f (rI C a))(b:∀i j,c i j=true->C i j)(m:∀K F H i j,RP K F H (g i j) (a i j)):o0 X f (CK c g):=by
 intro p s J H x y v u Q I l z h;obtain⟨F,e,n,d,S,t,w,q,k⟩:=h;cases e with
 |int i=>
  cases n with
  |int j=>
   rw[EW]at q;split at q
   .rename_i r;cases q;cases (show x=.int i from t);cases (show y=.int j from w);exact o p s J H _ _ v u Q I l z ⟨i,j,rfl,rfl,b i j r,k _ F H .refl (m _ _ _ _ _)⟩
   .cases q
  |_=>exact jI q
 |_=>exact jI q
theorem nQ(h:iT X f (D3 k)):iT X f (rI (λ_ _=>True) k):=λp s J H x y v u Q I r n ⟨i,j,e,a,_,q⟩=>h p s J H x y v u Q I r n ⟨i,j,e,a,q⟩
noncomputable abbrev z4:Int->Int->Bool:=λ_ _=>true
abbrev HY:=CK z4 λi j=>.int (i-j)
theorem Ks:o0 X (binaryOp .Sub) HY:=tH (nQ G0) (λ_ _ _=>trivial) λ_ _ _ _ _=>rfl
noncomputable abbrev GN:Int->Int->Bool:=λ_ j=>decide (0 < j) && decide (j < 1152921504606846976)
theorem Ba:iT X (binaryOp .FloorDiv) (rI (λ_ j=>0 < j/\j < 1152921504606846976) λi j=>.int (i / j)):=LI λi j _ _ _ _ _ h q=>by have a:(0:Int) < j:=h.1;have e:j < 1152921504606846976:=h.2;have x:j.natAbs.log2 < 9000:=bG ((qP (by lia)).mpr (show j.natAbs < 2 ^ 60 by lia)) (by decide);exact floordiv_int (by lia) (by rw[Int.fdiv_eq_ediv_of_nonneg i (by lia)];exact q) (.inl (PyProof.noPylong_of_log2 x))
abbrev sD:=CK GN λi j=>.int (i / j)
theorem Ej:o0 X (binaryOp .FloorDiv) sD:=tH Ba (λi j h=>by rw[aC]at h;exact⟨bq h.1,bq h.2⟩) λ_ _ _ _ _=>rfl
abbrev EU:=CK (λ_ j=>decide (0 < j)) λi j=>.int (i % j)
theorem Kw:o0 X (binaryOp .Mod) EU:=tH G3 (λi j h=>bq h) λ_ _ _ _ _=>rfl
abbrev HZ:=CK (λi j=>decide (0≤j) && decide (j≤1000000) && decide (i.natAbs < 2 ^ 64)) λi j=>.int (i ^ j.toNat)
theorem Kt:o0 X (binaryOp .Pow) HZ:=tH G2 (λi j h=>by simp only[aC]at h;exact⟨bq h.1.1,bq h.1.2,bq h.2⟩) λ_ _ _ _ _=>rfl
abbrev NM:=CK z4 λi j=>.bl (decide (i < j))
theorem Ng:o0 X (compareOp .Lt) NM:=tH (nQ Km) (λ_ _ _=>trivial) λ_ _ _ _ _=>rfl
abbrev NN:=CK z4 λi j=>.bl (decide (i≤j))
theorem Nh:o0 X (compareOp .LtE) NN:=tH (nQ Kn) (λ_ _ _=>trivial) λ_ _ _ _ _=>rfl
abbrev L6:=CK z4 λi j=>.bl (decide (j < i))
theorem Ni:o0 X (compareOp .Gt) L6:=tH (nQ Kq) (λ_ _ _=>trivial) λ_ _ _ _ _=>rfl
abbrev NP:=CK z4 λi j=>.bl (decide (j≤i))
theorem Nj:o0 X (compareOp .GtE) NP:=tH (nQ Kr) (λ_ _ _=>trivial) λ_ _ _ _ _=>rfl
noncomputable def iH(i j:Int):Bool:=decide (i.natAbs.log2+j.natAbs.log2 < 100000000)
theorem Bl{i j:Int}(h:iH i j=true):IntMulOk i j:=by
 have a:i.natAbs.log2+j.natAbs.log2 < 100000000:=bq h;have b:∀x:Int,Builtin.Int.intBits x≤x.natAbs.log2+1:=λx=>by
  unfold Builtin.Int.intBits;split
  .exact dn _
  .exact aw _
 exact IntMulOk.of_le (b i) (b j) (by lia)
theorem Eh:iT X (binaryOp .Mult) (rI (λi j=>IntMulOk i j) λi j=>.int (i * j)):=LI λ_ _ _ _ _ _ _ h q=>mul_int q h
noncomputable def fH(x:Str)(n:Nat):Str:=⟨(List.replicate n x.cps).foldl (·++·) #[]⟩
theorem uY(x:Str):fH x 1=x:=by unfold fH;cases x;simp
theorem zf(n:Nat):(List.replicate n (#[]:Array Nat)).foldl (·++·) #[]=#[]:=by
 induction n with
 |zero=>rfl
 |succ n i=>rw[cH,gj];simpa using i
theorem rG(x:Str)(n:Nat)(h:x.length=0):fH x n=x:=by have e:x.cps=#[]:=Array.eq_empty_of_size_eq_zero (by simpa[jo] using h);unfold fH;cases x;simp only at e;subst e;rw[zf]
theorem vn(a:Array Nat)(n:Nat):∀b:Array Nat,((List.replicate n a).foldl (·++·) b).size=b.size+n * a.size:=by
 induction n with
 |zero=>intro b;simp
 |succ n i=>intro b;rw[cH,gj,i,wv,qR];lia
theorem oE(x:Str)(n:Nat):(fH x n).length=n * x.length:=by unfold fH jo;simp only;rw[vn];simp
def uj:P->P->Option P
 | .int i,.int j=>if iH i j=true then some (.int (i * j)) else none
 | .str x,.int n=>if (iy (n.toNat * x.length) && decide (n.natAbs < 1000000))=true then some (.str (fH x n.toNat)) else none
 | .lst xs,.int n=>if (iy (xs.length * n.toNat) && decide (n.natAbs < 1000000))=true then some (.lst (List.replicate n.toNat xs).flatten) else none
 |_,_=>none
theorem cI.rep(h:cI K F H r xs):∀k:Nat,cI K F H (List.replicate k r).flatten (List.replicate k xs).flatten
 |0=>rfl
 |k+1=>by rw[cH,cH,eM,eM];exact h.append (cI.rep h k)
theorem Kv:o0 X (binaryOp .Mult) uj:=by
 intro r s J H x y v u Q I o S h;obtain⟨F,B,w,d,M,g,l,q,k⟩:=h;cases B with
 |int i=>
  cases w with
  |int j=>
   simp only[uj]at q;split at q
   .rename_i c;cases q;cases (show x=.int i from g);cases (show y=.int j from l);exact Eh r s J H _ _ v u Q I o S ⟨i,j,rfl,rfl,Bl c,k _ F H .refl rfl⟩
   .cases q
  |_=>exact jI q
 |str i=>
  cases w with
  |int n=>
   simp only[uj]at q;split at q
   .rename_i c;rw[aC]at c;have E:=bq c.2;have N:n.toNat * i.length≤1000000:=bq c.1;have T:=jZ;have V:(1000000:Nat)≤sizeLine:=by decide
    cases q;cases (show x=.str i from g);cases (show y=.int n from l);obtain⟨t,rfl⟩:=o;obtain⟨W,rfl⟩:=S;refine PySem.P.mul_str (by have C:decide (n < -(2 ^ 63:Int))=false:=cC (by lia);have D:decide (n ≥ 2 ^ 63)=false:=cC (by lia);rw[C,D];rfl) (λa b=>?_) (λa b=>?_) ?_
    .intro z;have R:((i.length:Nat):Int)≤(2 ^ 63-1) / n:=by
      refine(Int.le_ediv_iff_mul_le (by lia)).mpr ?_;have e:((i.length:Nat):Int) * n=((n.toNat * i.length:Nat):Int):=by rw[vK,vL (by lia),Int.mul_comm]
      rw[e];lia
     lia
    .unfold Builtin.Str.tooLong;first
      |exact cC (by rw[mL];lia)
      |(rw[mL];exact cC (by lia))
    .have f:Q (.str (fH i n.toNat)) H:=k _ F H .refl rfl;by_cases K:n < 1
     .rw [ai K];have e:n.toNat=0:=by lia
      rw[e]at f;exact⟨by decide,⟨.str Str.empty,H,I.tok _,⟨_,rfl⟩,f⟩⟩
     .rw [ar K];by_cases m:(n == 1 ||i.length == 0)=true
      .rw [ai m];rw[jp]at m;have e:fH i n.toNat=i:=by
        rcases m with m|m
        .have:n=1:=by simpa using m
         subst this;exact uY i
        .exact rG i _ (by simpa using m)
       rw[e]at f;exact⟨.str i,H,I,⟨_,rfl⟩,f⟩
      .rw [ar m];refine⟨?_,⟨.str (fH i n.toNat),H,I.tok _,⟨_,rfl⟩,f⟩⟩;have:=oE i n.toNat
       unfold fH at this;rw[this];lia
   .cases q
  |_=>exact jI q
 |lst L=>
  cases w with
  |int n=>
   simp only[uj]at q;split at q
   .rename_i c;rw[aC]at c;have E:=bq c.2;cases q;obtain⟨a,xs,rfl,G,A⟩:=g;cases (show y=.int n from l);exact G1 r s J H _ _ v u Q I o S ⟨a,n,xs,rfl,rfl,G.2,by lia,by lia,by rw[<- A.length];exact fA c.1,λp P=>k _ _ _ (bY P) (.newLst P (A.rep _))⟩
   .cases q
  |_=>exact jI q
 |_=>exact jI q
noncomputable def Ot:P->P->Option P
 | .int i,.int j=>some (.bl (decide (i=j)))
 | .str x,.str y=>some (.bl (decide (x=y)))
 | .bl a,.bl b=>some (.bl (decide (a=b)))
 |_,_=>none
noncomputable def IK:P->P->Option P
 | .int i,.int j=>some (.bl (!decide (i=j)))
 | .str x,.str y=>some (.bl (!decide (x=y)))
 | .bl a,.bl b=>some (.bl (!decide (a=b)))
 |_,_=>none
theorem lD{i j:Int}:decide (V.int i=V.int j)=decide (i=j):=by
 by_cases h:i=j
 .subst h;simp
 .rw [cC h,cC λz=>h (V.int.inj z)]
theorem lC:decide (V.str i=V.str k)=decide (i=k):=by
 by_cases h:i=k
 .subst h;simp
 .rw [cC h,cC λz=>h (V.str.inj z)]
theorem og:decide (V.bl i=V.bl k)=decide (i=k):=by
 by_cases h:i=k
 .subst h;simp
 .rw [cC h,cC λz=>h (V.bl.inj z)]
theorem Nk:o0 X (compareOp .Eq) Ot:=by
 intro p s J H x y v u Q I r f h;obtain⟨F,b,a,d,t,e,n,q,k⟩:=h;cases b with
 |int i=>
  cases a with
  |int j=>cases q;cases (show x=.int i from e);cases (show y=.int j from n);exact Bb p s J H _ _ v u Q I r f ⟨rfl,by rw[lD];exact k _ F H .refl rfl⟩
  |_=>exact jI q
 |str i=>
  cases a with
  |str j=>cases q;cases (show x=.str i from e);cases (show y=.str j from n);exact Bb p s J H _ _ v u Q I r f ⟨rfl,by rw[lC];exact k _ F H .refl rfl⟩
  |_=>exact jI q
 |bl i=>
  cases a with
  |bl j=>cases q;cases (show x=.bl i from e);cases (show y=.bl j from n);exact Bb p s J H _ _ v u Q I r f ⟨rfl,by rw[og];exact k _ F H .refl rfl⟩
  |_=>exact jI q
 |_=>exact jI q
theorem Nf:o0 X (compareOp .NotEq) IK:=by
 intro p s J H x y v u Q I r f h;obtain⟨F,b,a,d,t,e,n,q,k⟩:=h;cases b with
 |int i=>
  cases a with
  |int j=>cases q;cases (show x=.int i from e);cases (show y=.int j from n);exact A' p s J H _ _ v u Q I r f ⟨rfl,by rw[lD];exact k _ F H .refl rfl⟩
  |_=>exact jI q
 |str i=>
  cases a with
  |str j=>cases q;cases (show x=.str i from e);cases (show y=.str j from n);exact A' p s J H _ _ v u Q I r f ⟨rfl,by rw[lC];exact k _ F H .refl rfl⟩
  |_=>exact jI q
 |bl i=>
  cases a with
  |bl j=>cases q;cases (show x=.bl i from e);cases (show y=.bl j from n);exact A' p s J H _ _ v u Q I r f ⟨rfl,by rw[og];exact k _ F H .refl rfl⟩
  |_=>exact jI q
 |_=>exact jI q
theorem yy{Q β:Type}{xs:List Q}{s:List β}{i:Int}{d:Q}(l:xs.length=s.length)(h:L2.atI xs i=some d):∃j:Nat,xs[j]? = some d/\∀y,s[j]? = some y->L2.atI s i=some y:=by
 unfold L2.atI at h ⊢;rw[l]at h;cases e:ya s.length i with
 |none=>rw[e]at h;cases h
 |some j=>rw[e]at h;exact⟨j,h,λy x=>x⟩
theorem cI.atI{K:FG}{F:Aa}{H:Hp}{s:List P}{xs:List V}{i:Int}{d:P}(r:cI K F H s xs)(h:L2.atI s i=some d):∃x,L2.atI xs i=some x/\RP K F H d x:=by obtain⟨j,a,n⟩:=yy r.length h;obtain⟨x,e,p⟩:=r.get a;exact⟨x,n x e,p⟩
theorem dQ.atI{K:FG}{F:Aa}{H:Hp}{m:List Addr}{s:List D}{xs:List V}{i:Int}{d:D}(r:dQ K F H m s xs)(h:L2.atI s i=some d):∃x,L2.atI xs i=some x/\RD K F H m d x:=by obtain⟨j,a,n⟩:=yy r.length h;obtain⟨x,e,p⟩:=r.get a;exact⟨x,n x e,p⟩
noncomputable def fW(k:dX):List dX->List Q->Option Q
 |h::s,v::B=>if h=k then some v else fW k s B
 |_,_=>none
noncomputable def iI:P->Option dX
 | .int i=>some (.inl i)
 | .str x=>some (.inr x)
 |_=>none
def mY:P->P->Option P
 | .tup xs,.int i=>L2.atI xs i
 | .lst xs,.int i=>L2.atI xs i
 | .ro xs,.int i=>L2.atI xs i
 | .str x,.int i=>if iy x.length=true then (L2.atI x.cps.toList i).map λc=>.str ⟨#[c]⟩ else none
 | .dct s B,y=>match iI y with
  |some k=>fW k s B
  |none=>none
 |_,_=>none
theorem kX:∀{s:List (dX×V)}{a:List P}{d:P},cI K F H a (s.map (·.2))->fW k (s.map (·.1)) a=some d->∃v,ia s k=some v/\RP K F H d v
 | [],a,d,r,h=>by cases a<;>exact jI h
 |(f,v)::s,[],d,r,h=>jI h
 |(f,v)::s,u::a,d,r,h=>by
  obtain⟨x,g,e,p,b⟩:=r;rw[aU]at e;injection e with c m;simp only[aU,fW]at h;by_cases n:f=k
  .rw [ai n]at h;cases h;exact⟨v,g4 (p:=(f,v)) n,by rw[show v=x from c];exact p⟩
  .rw [ar n]at h;rw[<- m]at b;obtain⟨w,t,q⟩:=kX b h;exact⟨w,by rw[fG (p:=(f,v)) n];exact t,q⟩
theorem i'(h:iI t=some k)(r:RP K F H t v):v=kV k:=by
 cases t with
 |int i=>cases h;exact r
 |str x=>cases h;exact r
 |_=>exact jI h
theorem BC(r:X.A.units+1 < cLine):CG X (λx y H Q=>∃a v,x=.ref a/\kQ H a y (some v)/\(∃k,H a=some (.dK k))/\Q v H):=by
 intro f l p s J H x y v u Q I d i h m;obtain⟨a,w,rfl,g,⟨k,c⟩,q⟩:=h;cases d;have n:∃o,s.heap.get? a=some o/\o.ExactDict:=by obtain⟨_,_,_,_,o,_,_,e,n,_⟩:=I.h a _ c;exact⟨o,e,n⟩
 obtain⟨o,e,n⟩:=n;exact mv ⟨o,e,n.1⟩ xm.lookup (zk r I g i λz j b t=>⟨w,H,b,t,q⟩) m
theorem Oh(M:X.A.units+1 < cLine):CG X (rP X.K mY):=by
 intro n l f s J H x y v u Q I o S h t;obtain⟨F,D,m,d,R,g,j,q,k⟩:=h;cases D with
 |tup b=>
  cases m with
  |int i=>obtain⟨a,xs,rfl,K,r⟩:=g;cases (show y=.int i from j);obtain⟨z,e,p⟩:=r.atI (show L2.atI b i=some d from q);exact BB n l f s J H _ _ v u Q I o S ⟨a,xs,i,z,rfl,rfl,K.sq,e,k z F H .refl p⟩ t
  |_=>exact jI q
 |lst b=>
  cases m with
  |int i=>obtain⟨a,xs,rfl,K,r⟩:=g;cases (show y=.int i from j);obtain⟨z,e,p⟩:=r.atI (show L2.atI b i=some d from q);exact rZ n l f s J H _ _ v u Q I o S ⟨a,xs,i,z,rfl,rfl,K.sq,e,k z F H .refl p⟩ t
  |_=>exact jI q
 |ro b=>
  cases m with
  |int i=>obtain⟨a,xs,rfl,K,r⟩:=g;cases (show y=.int i from j);obtain⟨z,e,p⟩:=r.atI (show L2.atI b i=some d from q);exact rZ n l f s J H _ _ v u Q I o S ⟨a,xs,i,z,rfl,rfl,K.sq,e,k z F H .refl p⟩ t
  |_=>exact jI q
 |str z=>
  cases m with
  |int i=>
   cases (show x=.str z from g);cases (show y=.int i from j);simp only[mY]at q;split at q
   .rename_i L;cases e:L2.atI z.cps.toList i with
    |none=>rw[e]at q;exact jI q
    |some c=>rw[e]at q;cases q;exact Hr n l f s J H _ _ v u Q I o S ⟨z,i,c,rfl,rfl,fA L,e,k _ F H .refl rfl⟩ t
   .cases q
  |_=>exact jI q
 |dct T b=>
  obtain⟨a,B,rfl,fa,C,G,r⟩:=g;simp only[mY]at q;cases P:iI m with
  |none=>rw[P]at q;exact jI q
  |some N=>rw[P]at q;dsimp only at q;subst G;obtain⟨w,E,p⟩:=kX r q;have A:=i' P j;subst A;exact BC M n l f s J H _ _ v u Q I o S ⟨a,w,rfl,by rw[<- E];exact kQ.k C,⟨B,C⟩,k w F H .refl p⟩ t
 |_=>exact jI q
theorem OO{a b:Expr}{fa fb:EV}{M:Pos}(u:X.A.units+1 < cLine)(x:PE X a (tV X.K fa))(e:PE X b (tV X.K fb))(s:kO b):PE X (.Subscript a b M) (tV X.K (oy mY fa fb)):=
 (A8 (Oh u) x e s).imp' λ_ _ _ h=>rF h
end
section
variable{X:Cx}
theorem nB:∀{s:List (dX×V)}{a:List D}{d:D},dQ K F H m a (s.map (·.2))->fW k (s.map (·.1)) a=some d->∃v,ia s k=some v/\RD K F H m d v
 | [],a,d,r,h=>by cases a<;>exact jI h
 |(f,v)::s,[],d,r,h=>jI h
 |(f,v)::s,g::a,d,r,h=>by
  obtain⟨x,i,e,p,b⟩:=r;rw[aU]at e;injection e with c t;simp only[aU,fW]at h;by_cases n:f=k
  .rw [ai n]at h;cases h;exact⟨v,g4 (p:=(f,v)) n,by rw[show v=x from c];exact p⟩
  .rw [ar n]at h;rw[<- t]at b;obtain⟨w,q,u⟩:=nB b h;exact⟨w,by rw[fG (p:=(f,v)) n];exact q,u⟩
@[simp] def lj(r:EE)(k:EV)(L:Lc)(S:aL):sP:=bC (r L S) λd x=>bC (k L x) λy h=>match d with
 | .p v=>(mY v y).map λz=>(.p z,h)
 | .ref i=>match h[i]? with
  | some (.lst s)=>(match y with
   | .int j=>(L2.atI s j).map λz=>(z,h)
   |_=>none)
  | some (.tpl s)=>(match y with
   | .int j=>(L2.atI s j).map λz=>(z,h)
   |_=>none)
  |some (.fz v)=>(mY v y).map λz=>(.p z,h)
  | some (.dct a B)=>(match iI y with
   |some k=>(fW k a B).map λz=>(z,h)
   |none=>none)
  |_=>none
theorem MC{a b:Expr}{fa:EE}{fb:EV}{M:Pos}(hu:X.A.units+1 < cLine)(ha:PE X a (tE X.K fa))(hb:PE X b (tV X.K fb))(hs:kO b):PE X (.Subscript a b M) (tE X.K (lj fa fb)):=
 (A8 ((((Oh hu).or rZ).or (BC hu)).or BB) ha hb hs).imp' λJ H Q hz=>by
  obtain⟨F,m,L,S,d,N,r,l,q,k⟩:=hz;obtain⟨x,S1,W,q⟩:=ah q;obtain⟨h,T,e2,q⟩:=ah q;refine⟨F,m,L,S,x,S1,r,l,W,λv j m1 y K r1 p1=>?_⟩;refine⟨j,m1,L,S1,h,T,r1,l.mono K,e2,λe C E I A f R=>?_⟩;have px:=RD.mono A p1;have n:∀w:P,RP X.K C I w v->(mY w h).map (λz=>(D.p z,T))=some (d,N)->rP X.K mY v e I Q:=λw pw q=>by
   cases g:mY w h with
   |none=>rw[g]at q;cases q
   |some z=>rw[g]at q;cases q;exact⟨C,w,h,z,f.ft,pw,R,g,λt F3 H3 gr o=>k t F3 E H3 (K.trans (A.trans gr.stp)) (f.grow gr) o⟩
  cases x with
  |p w=>exact .inl (.inl (.inl (n w px q)))
  |ref i=>
   obtain⟨a,rfl,hm⟩:=px;dsimp only at q;cases u:T[i]? with
   |none=>rw[u]at q;cases q
   |some so=>
    rw[u]at q;have G:=f.obj i a so hm u;cases so with
    |fz w=>exact .inl (.inl (.inl (n w G q)))
    |dct ks B=>
     dsimp only at q;obtain⟨c,hk,ek,ra⟩:=G;cases ey:iI h with
     |none=>rw[ey]at q;cases q
     |some key=>
      rw[ey]at q;dsimp only at q;subst ek;cases g:fW key (c.map (·.1)) B with
      |none=>rw[g]at q;cases q
      |some z=>rw[g]at q;cases q;obtain⟨w,W,p⟩:=nB ra g;have eyv:=i' ey R;subst eyv;exact .inl (.inr ⟨a,w,rfl,by rw[<- W];exact kQ.k hk,⟨c,hk⟩,k w C E I (K.trans A) f p⟩)
    |ins _ _ _=>cases q
    |exc _ _=>cases q
    |dtt _ _=>cases q
    |lst V=>
     dsimp only at q;cases h with
     |int s=>
      dsimp only at q;obtain⟨xs,hH,rs⟩:=G;cases g:L2.atI V s with
      |none=>rw[g]at q;cases q
      |some z=>rw[g]at q;cases q;obtain⟨t,Z,o⟩:=rs.atI g;cases (show e=.int s from R);exact .inl (.inl (.inr ⟨a,xs,s,t,rfl,rfl,iA.of hH,Z,k t C E I (K.trans A) f o⟩))
     |_=>cases q
    |tpl V=>
     dsimp only at q;cases h with
     |int s=>
      dsimp only at q;obtain⟨xs,hH,rs⟩:=G;cases g:L2.atI V s with
      |none=>rw[g]at q;cases q
      |some z=>rw[g]at q;cases q;obtain⟨t,Z,o⟩:=rs.atI g;cases (show e=.int s from R);exact .inr ⟨a,xs,s,t,rfl,rfl,.inl (.inl hH),Z,k t C E I (K.trans A) f o⟩
     |_=>cases q
def bX:P->Option Nat
 | .tup xs=>some xs.length
 | .lst xs=>some xs.length
 | .ro xs=>some xs.length
 | .str x=>if iy x.length=true then some x.length else none
 |_=>none
def bE:D->aL->Option Nat
 | .p v,_=>bX v
 | .ref i,S=>match S[i]? with
  |some (.lst d)=>some d.length
  |some (.fz v)=>bX v
  |_=>none
def bF(r:EE):EV:=λL S=>bC (r L S) λd h=>(bE d h).map λn=>(.int n,h)
theorem x8{F:Aa}{H:Hp}{w:P}{v:V}{n:Nat}{Q:VK}(p:RP X.K F H w v)(h:bX w=some n)(q:Q (.int n) H) :
  (∃p y,[v]=[V.ref p]/\(iA X.K H p y\/pL X.K H p y)/\Q (.int y.length) H)\/(∃z,[v]=[V.str z]/\z.length≤sizeLine/\Q (.int z.length) H):=by
 cases w with
 |tup d=>obtain⟨a,xs,rfl,t,r⟩:=p;cases h;exact .inl ⟨a,xs,rfl,.inr t.sq,by rw[<- r.length];exact q⟩
 |lst d=>obtain⟨a,xs,rfl,t,r⟩:=p;cases h;exact .inl ⟨a,xs,rfl,.inl t.sq,by rw[<- r.length];exact q⟩
 |ro d=>obtain⟨a,xs,rfl,t,r⟩:=p;cases h;exact .inl ⟨a,xs,rfl,.inl t.sq,by rw[<- r.length];exact q⟩
 |str x=>
  cases (show v=.str x from p);simp only[bX]at h;split at h
  .rename_i c;cases h;exact .inr ⟨x,rfl,fA c,q⟩
  .cases h
 |_=>exact jI h
theorem MB(C:Gl X "len")(f:X.g "len"=none)(A:PE X e (tE X.K fe))(c:starEach [e] X.e=[(false,eval e X.e)]:=by rfl):PE X (.Call (.Name "len" p) [e] [] M) (tV X.K (bF fe)):=
 (i7 (sH.or sG) C f PySem.boot_len (d4 A ij (by rw[c];rfl)) (by decide) (by decide) (by rw[c];rfl) rfl).imp' λJ H Q D=>by
  obtain⟨F,m,L,S,d,N,r,l,q,k⟩:=D;obtain⟨x,b,K,q⟩:=ah q;refine⟨F,m,L,S,x,b,r,l,K,λv j E y I g t=>?_⟩;cases h:bE x b with
  |none=>rw[h]at q;cases q
  |some n=>
   rw[h]at q;cases q;have s:Q (.int n) y:=k _ j E y I g rfl;cases x with
   |p w=>exact x8 t h s
   |ref i=>
    obtain⟨a,rfl,f⟩:=t;simp only[bE]at h;cases u:N[i]? with
    |none=>rw[u]at h;cases h
    |some z=>
     rw[u]at h;have o:=g.obj i a z f u;cases z with
     |fz w=>exact x8 o h s
     |dct T B=>cases h
     |ins _ _ _=>cases h
     |exc _ _=>cases h
     |tpl _=>cases h
     |dtt _ _=>cases h
     |lst R=>cases h;obtain⟨xs,P,G⟩:=o;exact .inl ⟨a,xs,rfl,.inl (iA.of P),by rw[<- G.length];exact s⟩
noncomputable def eH(d:D)(S:aL):Option (Nat×List D):=match d with
 | .ref i=>match S[i]? with
  |some (.lst s)=>some (i,s)
  |_=>none
 |_=>none
theorem rR(h:eH d S=some (i,k)):d=.ref i/\S[i]? = some (.lst k):=by
 unfold eH at h;split at h
 .split at h
  .rename_i e;cases h;exact⟨rfl,e⟩
  .cases h
 .cases h
@[simp] def dN(r:EE)(a:EE)(L:Lc)(S:aL):sP:=bC (r L S) λd h=>match eH d h with
 |none=>none
 |some _=>bC (a L h) λx e=>match eH d e with
  |some (i,s)=>if few s=true then some (.p .non,e.set i (.lst (s++[x]))) else none
  |none=>none
theorem Ds{o e:Expr}{V fe:EE}{p c:Pos}(ho:PE X o (tE X.K V))(he:PE X e (tE X.K fe))(G:starEach [e] X.e=[(false,eval e X.e)]:=by rfl)
  (b:attributeBase o "append" X.e (eval o X.e)=eval o X.e:=by rfl) (t:(p.endLine == c.line)=true:=by rfl):PE X (.Call (.Attribute o "append" p) [e] [] c) (tE X.K (dN V fe)):=
 (Kh v9 vV PySem.F.type_list_append pc ho (d4 he ij (by rw[G];rfl)) b (by rw[G];rfl) t (by rw[G];rfl) rfl).imp' λJ H Q hz=>by
  obtain⟨F,m,L,S,d,N,r,l,q,k⟩:=hz;obtain⟨x,A,e1,q⟩:=ah q;refine⟨F,m,L,S,x,A,r,l,e1,λv j m1 y s1 r1 p1=>?_⟩;cases D:eH x A with
  |none=>rw[D]at q;cases q
  |some z=>
   obtain⟨i,ds⟩:=z;rw[D]at q;dsimp only at q;obtain⟨rfl,u⟩:=rR D;obtain⟨a,rfl,hm⟩:=id p1;obtain⟨xs,hH,rs⟩:=r1.obj i a _ hm u;refine⟨.inl ⟨rfl,xs,iA.of hH⟩,?_⟩;obtain⟨h,T,e2,q⟩:=ah q;refine⟨j,m1,L,A,h,T,r1,l.mono s1,e2,λs C M I s2 R p2=>?_⟩;cases n:eH (.ref i) T with
   |none=>rw[n]at q;cases q
   |some z=>
    obtain⟨i2,B⟩:=z;rw[n]at q;dsimp only at q;obtain⟨e3,f⟩:=rR n;cases e3;split at q
    .rename_i W;cases q;obtain⟨a2,e4,w⟩:=RD.mono s2 p1;cases e4;obtain⟨g,K,P⟩:=R.obj i a _ w f;have hl:=se W;have E:g.length < sizeLine:=by
      have:B.length≤1000000:=bq W;rw[<- P.length];exact qT this (by decide)
     have Z:∀zs,I a≠some (.tup zs):=λzs z=>by rw[K]at z;cases z
     have st:Stp C M I C M (upd I a (.lst (g++[s]))):=ig R w f trivial Z;refine⟨a,g,s,rfl,rfl,K,E,?_⟩;exact k .non C M _ (s1.trans (s2.trans st)) (R.set w f trivial Z ⟨_,aX,dQ.mono st (P.append ⟨s,[],rfl,p2,rfl⟩)⟩) rfl
    .cases q
def li(r:EE):EE:=λL S=>bC (r L S) λd h=>match eH d h with
 |some (i,s)=>match s[s.length-1]? with
  |some x=>some (x,h.set i (.lst s.dropLast))
  |none=>none
 |none=>none
theorem dQ.dropLast(r:dQ K F H m h xs):dQ K F H m h.dropLast xs.dropLast:=by rw[wU,wU,r.length];exact r.take _
theorem Mv(G:PE X o (tE X.K fo))
  (b:attributeBase o "pop" X.e (eval o X.e)=eval o X.e:=by rfl) (n:(t.endLine == cpos.line)=true:=by rfl):PE X (.Call (.Attribute o "pop" t) [] [] cpos) (tE X.K (li fo)):=
 (GW v9 vR PySem.F.type_list_pop Hc G b n).imp' λJ H Q I=>by
  obtain⟨F,m,L,S,d,N,r,l,q,k⟩:=I;obtain⟨x,P,D,q⟩:=ah q;refine⟨F,m,L,S,x,P,r,l,D,λv j w y T g M=>?_⟩;cases s:eH x P with
  |none=>rw[s]at q;cases q
  |some z=>
   obtain⟨i,A⟩:=z;rw[s]at q;dsimp only at q;obtain⟨rfl,u⟩:=rR s;obtain⟨a,rfl,p⟩:=id M;obtain⟨xs,c,K⟩:=g.obj i a _ p u;refine⟨.inl ⟨rfl,xs,iA.of c⟩,?_⟩;cases f:A[A.length-1]? with
   |none=>rw[f]at q;cases q
   |some h=>
    rw[f]at q;cases q;obtain⟨e,E,R⟩:=K.get f;have B:∀C,y a≠some (.tup C):=λC z=>by rw[c]at z;cases z
    have st:Stp j w y j w (upd y a (.lst xs.dropLast)):=ig g p u trivial B;refine⟨a,xs,e,rfl,rfl,c,by rw[<- K.length];exact E,?_⟩;exact k e j w _ (T.trans st) (g.set p u trivial B ⟨_,aX,dQ.mono st K.dropLast⟩) (RD.mono st R)
noncomputable abbrev EO:=Lc->aL->Option (Option Int×aL)
noncomputable def dv:EO:=λ_ S=>some (none,S)
def bI(a:EV):EO:=λL S=>bC (a L S) λv h=>match v with
 | .int i=>some (some i,h)
 |_=>none
inductive tOI(K:FG)(f:EO)(J:L2.St)(H:Hp)(Q:Option Int->Hp->Prop):Prop
 |mk (F:Aa) (m:List Addr) (L:Lc) (S:aL) (b:Option Int) (S':aL) (h0_:Rel K F H m S) (h1_:RL K F H m J L) (h2_:f L S=some (b,S')) (h3_:∀F' m' H',Stp F m H F' m' H'->Rel K F' H' m' S'->Q b H'):tOI K f J H Q
noncomputable def tO(K:FG)(f:EO):TO:=λJ H Q=>tOI K f J H Q
theorem _root_.L2.PO.imp'(h:PO X e t)(i:∀J H Q,k J H Q->t J H Q):PO X e k:=λp s J H Q I q=>h p s J H Q I (i J H Q q)
theorem G_:PO X none (tO X.K dv):=Ea.imp' λJ H Q h=>by obtain⟨F,m,L,S,d,N,r,l,q,k⟩:=h;cases q;exact k F m H .refl r
theorem G9(h:PE X e (tV X.K fa)):PO X (some e) (tO X.K (bI fa)):=(D_ h).imp' λJ H Q z=>by
 obtain⟨F,m,L,S,d,N,r,l,q,k⟩:=z;obtain⟨x,b,a,q⟩:=ah q;cases x with
 |int i=>cases q;exact⟨F,m,L,S,_,_,r,l,a,λv j s y f n p=>⟨i,p,k j s y f n⟩⟩
 |_=>cases q
def cut(xs:List Q)(lo h:Option Int):List Q:=(xs.drop (HT.dw xs.length 0 lo)).take (HT.dw xs.length xs.length h-HT.dw xs.length 0 lo)
theorem cI.cut(r:cI K F H k xs)(lo h:Option Int):cI K F H (Ev.cut k lo h) (oX xs lo h):=by unfold Ev.cut oX;rw[r.length];exact(r.drop _).take _
def Qd:P->Option Int->Option Int->Option P
 | .lst xs,lo,h=>some (.lst (cut xs lo h))
 | .ro xs,lo,h=>some (.lst (cut xs lo h))
 | .tup xs,lo,h=>if HT.dw xs.length 0 lo=0/\HT.dw xs.length xs.length h=xs.length then none else some (.tup (cut xs lo h))
 |_,_,_=>none
theorem _root_.L2.PI.imp'(h:PI X r iter t)(i:∀J H R,k J H R->t J H R):PI X r iter k:=λp s J H R I q=>h p s J H R I (i J H R q)
theorem BE(f:∀C h I,Stp F m H C h I->iA K I a xs)(r:cI K F H B xs):FT K (Me K a) B F m H:=by
 intro C h I s;have q:=f C h I s;have k:=cI.mono s r;refine⟨λi v e=>?_,⟨xs,q,by rw[k.length];exact aw _⟩⟩;obtain⟨x,n,p⟩:=k.get e;refine⟨⟨xs,x,q,n⟩,λy b z=>?_⟩;obtain⟨rfl,z⟩:=z;have:=z xs q
 rw[n]at this;cases this;exact⟨C,.refl,p⟩
theorem Ht(k:TupAt K H a xs)(r:cI K F H B xs):FT K (OE K a) B F m H:=by
 intro C b I s;have q:=(k.kp s.kp).sq;have n:=cI.mono s r;refine⟨λi v e=>?_,⟨xs,q,by rw[n.length];exact aw _⟩⟩;obtain⟨x,h,p⟩:=n.get e;refine⟨⟨xs,x,q,h⟩,λy f z=>?_⟩;obtain⟨rfl,z⟩:=z;have:=z xs q
 rw[h]at this;cases this;exact⟨C,.refl,p⟩
noncomputable def intsFrom(lo:Int)(n:Nat):List P:=(List.range n).map λ(i:Nat)=>.int (lo+(i:Int))
def vk(a:EV):gc:=λL S=>bC (a L S) λv h=>match v with
 | .int j=>if decide (j.natAbs < 1000000)=true then some (intsFrom 0 j.toNat,h) else none
 |_=>none
theorem Hv{lo:Int}:FT K (Md lo n) (intsFrom lo n) F m H:=by
 intro C k I s;have l:(intsFrom lo n).length=n:=by unfold intsFrom;simp
 refine⟨λi v e=>?_,by show n≤(intsFrom lo n).length;rw[l];exact aw _⟩;have h:i < n:=by rw[<- l];exact(bt.mp e).1
 refine⟨h,λx a z=>?_⟩;obtain⟨rfl,rfl⟩:=z;refine⟨C,.refl,?_⟩;unfold intsFrom at e;simp[h]at e;subst e;exact rfl
theorem P1{u a:Expr}{fa:EV}{p M:Pos}(g:Gl X "range")(f:X.g "range"=none)(n:PE X a (tV X.K fa))(s:starEach [a] X.e=[(false,eval a X.e)]:=by rfl):PI X u (.Call (.Name "range" p) [a] [] M) (tI X.K (vk fa)):=
 (yX g f (d4 n ij (by rw[s];rfl)) s).imp' λJ H R z=>by
  obtain⟨F,m,L,S,B,N,r,l,q,k⟩:=z;obtain⟨v,i,e,q⟩:=ah q;cases v with
  |int h=>
   dsimp only at q;split at q
   .rename_i c;have o:h.natAbs < 1000000:=bq c;cases q;refine⟨F,m,L,S,_,_,r,l,e,λx j b y w d t=>?_⟩;cases (show x=.int h from t);exact⟨h,rfl,by lia,by lia,k _ j b y w d Hv⟩
   .cases q
  |_=>cases q
end
def jg(g:jD)(c:EB)(e:EV):List P->Lc->aL->Option (List P×aL)
 | [],_,S=>some ([],S)
 |v::r,L,S=>match g v L with
  |none=>none
  |some h=>bC (c h S) λk x=>if k=true then bC (e h x) λy a=>bC (jg g c e r h a) λn s=>some (y::n,s) else jg g c e r h x
noncomputable def zD(q:List Nat)(n:Nat)(L:List (Option Q)):List (Option Q):=(q.foldl (λL i=>L.set i none) L)++List.replicate n none
def kn(i:gc)(q:List Nat)(n:Nat)(g:jD)(c:EB)(e:EV):EV:=λL S=>bC (i L S) λxs h=>if few xs=true then bC (jg g c e xs (zD q n L) h) λy x=>some (.lst y,x) else none
@[simp] def Cs(_L:Lc)(S:aL):IC:=some (true,S)
theorem eP(q:List Nat):∀L:List (Option Q),(q.foldl (λL i=>L.set i none) L).length=L.length:=by
 induction q with
 |nil=>intro L;rfl
 |cons t q h=>intro L;rw[gj,h,dM]
theorem oN(q:List Nat):∀(L:List (Option Q))(i:Nat)(d:Q),(q.foldl (λL i=>L.set i none) L)[i]? = some (some d)->L[i]? = some (some d)/\i ∉ q:=by
 induction q with
 |nil=>intro L i d h;exact⟨h,by simp⟩
 |cons t q s=>
  intro L i d h;rw[gj]at h;obtain⟨x,a⟩:=s _ _ _ h;by_cases e:t=i
  .subst e;by_cases l:t < L.length
   .rw [dm l]at x;cases x
   .rw [qK (by rw[dM];lia)]at x;cases x
  .rw [cr e]at x;exact⟨x,by simp[a];exact λz=>e z.symm⟩
theorem rj(q:List Nat)(n:Nat)(L:List (Option Q)):(zD q n L).length=L.length+n:=by unfold zD;rw[aN,eP,gn]
theorem xM(h:(zD q n L)[i]? = some (some d)):L[i]? = some (some d)/\i ∉ q/\i < L.length:=by
 unfold zD at h;by_cases x:i < L.length
 .rw [d1 (by rw[eP];exact x)]at h;obtain⟨a,e⟩:=oN q L i d h;exact⟨a,e,x⟩
 .rw [gp (by rw[eP];lia),qL]at h;split at h<;>cases h
variable{J:L2.St}
theorem RL.up(l:RL K F H m J L)(q:List Nat)(n:Nat):RL K F H m (zD q n J) (zD q n L):=by
 refine⟨by rw[rj,rj,l.len],λi d h=>?_⟩;obtain⟨a,s,f⟩:=xM h;obtain⟨v,e,r⟩:=l.at' i d a;refine⟨v,?_,r⟩;unfold zD;rw[d1 (by rw[eP,l.len];exact f)];have k:∀(q:List Nat)(J:L2.St),i ∉ q->J[i]? = some (some v)->(q.foldl (λL i=>L.set i none) J)[i]? = some (some v):=by
  intro q;induction q with
  |nil=>intro J _ e;exact e
  |cons t q b=>intro J x e;rw[gj];refine b _ (λz=>x (a_ _ z)) ?_;rw[cr (λz=>x (by rw[z];exact aZ))];exact e
 exact k q J s e
noncomputable def ll(G:Scope)(e:Env):List (Str×Addr):=((G.names.filter λx=>x.2 == .free).map λx=>(x.1,(e.cells.lookup x.1).getD 0)).reverse
def inn(X:Cx)(G:Scope)(l:LS)(s:Shared)(H:Hp)(C:Addr)(f:List Addr):Cx:=
 { X with N:=l,z:=s,y:=H,e:=compEnvC G (ll G X.e) C X.e,o:=X.k,ex:=f,fn:=λ_=>false,pn:=[],xe:=λ_ _=>False }
structure BlockOk(X:Cx)(scope:Scope)(N':LS)(ts:List Nat)(n:Nat):Prop where
 kind:scope.kind=.function
 cell:∀x ∈ scope.names,x.2≠.cell
 loc:∀x ∈ scope.names,x.2=.local->scope.names.lookup x.1=some .local
 fr:∀x ∈ scope.names,x.2=.free->scope.names.lookup x.1=some .free/\(X.e.kindOf x.1=some .cell\/X.e.kindOf x.1=some .free)
 names:X.N=N'.take X.N.length
 more:N'.length=X.N.length+n
 ts:∀x ∈ scope.names,x.2=.local->∀i:Nat,X.N[i]? = some x.1->i ∈ ts
theorem fN:∀{l:List (Str×Q)}{x:Str}{v:Q},l.lookup x=some v->(x,v) ∈ l
 | [],_,_,h=>by simp at h
 |(y,w)::r,x,v,h=>by
  rw[kg]at h;cases e:x == y with
  |true=>rw[e]at h;cases h;rw[show x=y from by simpa using e];exact aZ
  |false=>rw[e]at h;exact a_ _ (fN h)
theorem jK:∀{l:List (Str×Q)}{x:Str}{v:Q},(x,v) ∈ l->∃w,l.lookup x=some w
 | [],_,_,h=>by simp at h
 |(y,w)::r,x,v,h=>by
  rw[kg];cases e:x == y with
  |true=>exact⟨w,rfl⟩
  |false=>
   rcases av.mp h with h|h
   .injection h with a _;subst a;simp at e
   .exact jK h
variable{x:Str}
theorem er(h:(relabel G r).names.lookup x=some k):∃a,(x,a) ∈ G.names/\(k=a\/(k=.cell/\a=.free)):=by
 have m:=fN h;unfold relabel at m;obtain⟨⟨n,a⟩,t,e⟩:=hV.mp m;by_cases c:(a == NameKind.free && r.scope.kind == .function && r.kindOf n == some .cell)=true
 .have s:(n,NameKind.cell)=(x,k):=by simpa[c] using e
  injection s with f b;subst f;rw[aC,aC]at c;exact⟨a,t,.inr ⟨b.symm,by simpa using c.1.1⟩⟩
 .have s:(n,a)=(x,k):=by simpa[c] using e
  injection s with f b;subst f;exact⟨a,t,.inl b.symm⟩
section
variable{X:Cx}{G:Scope}{l:LS}{q:List Nat}{n:Nat}
theorem BlockOk.cl(B:BlockOk X G l q n)(I:Inv X pins J H s)(h:(ll G X.e).lookup x=some c):X.e.cells.lookup x=some c/\(x,NameKind.free) ∈ G.names:=by
 have t:=fN h;unfold ll at t;obtain⟨⟨y,k⟩,m,e⟩:=hV.mp (wI.mp t);obtain⟨m,w⟩:=mB.mp m;have r:k=.free:=by simpa using w
 subst r;injection e with v f;subst v;obtain⟨_,d⟩:=B.fr _ m rfl;obtain⟨p,a⟩:=I.o.has y d;dsimp only at f;rw[a]at f;have b:p=c:=f;subst b;exact⟨a,m⟩
theorem BlockOk.has(B:BlockOk X G l q n)(h:(x,NameKind.free) ∈ G.names):∃c,(ll G X.e).lookup x=some c:=by unfold ll;exact jK (v:=(X.e.cells.lookup x).getD 0) (wI.mpr (hV.mpr ⟨(x,.free),mB.mpr ⟨h,by simp⟩,rfl⟩))
theorem BM(B:BlockOk X G l q n)(I:Inv X r J H s)(C:s.heap.objs.size≤k)(f:∀b ∈ t,sN X r H b)(w:∀b ∈ t,b < s.heap.objs.size) :
  (inn X G l s H k t).Ok where
 mod:=I.o.mod
 kind:=B.kind
 glob:=I.o.glob
 blt:=I.o.blt
 above:=C
 inj:=λx y c v d=>I.o.inj x y c (B.cl I v).1 (B.cl I d).1
 has:=λx h=>by
  have p:(relabel G X.e).names.lookup x=some .cell\/(relabel G X.e).names.lookup x=some .free:=h;rcases p with h|h
  .obtain⟨u,m,e|⟨_,e⟩⟩:=er h
   .subst e;exact absurd rfl (B.cell _ m)
   .subst e;exact B.has m
  .obtain⟨u,m,e|⟨e,_⟩⟩:=er h
   .subst e;exact B.has m
   .cases e
 cab:=λx c h=>nomatch h
 hd:=I.o.hd
 frames:=I.o.frames
 stk:=.inl rfl
 exf:=λb a=>⟨bO (bG (w b a) C),λx c h=>(f b a).2.2.2.2.1 x c (B.cl I h).1⟩
 bs:=I.bs
 bsz:=bN I.o.bsz I.sz
 noex:=λb o e a=>by
  rcases(f b a).2.2.2.1 with z|z
  .exact I.o.noex b o e z
  .exact absurd (bG (bg (I.o.bs b o e).1) z) (gw _)
 exfs:=λb a z=>by
  rcases av.mp (I.stkSub b z) with z|z
  .exact (f b a).2.1 z
  .exact (f b a).2.2.1 z
 funs:=I.stack
 frf:=I.stkFree
theorem _root_.L2.Un.sameBut(u:Un fs r H H' h t)(s:iX k t h2)(C:∀b o,h.get? b=some o->b≠k):Un fs r H H' h h2 where
 keep:=λb o e n a x=>s.extBut b o (C b o e) (u.keep b o e n a x)
 slot:=λb o e n a x=>by obtain⟨l,q⟩:=u.slot b o e n a x;exact⟨l,s.extBut b _ (C b o e) q⟩
 free:=u.free
 there:=λb o e x=>by obtain⟨f,q⟩:=u.there b o e x;exact⟨f,s.extBut b _ (C b o e) q⟩
 tups:=u.tups
 frzs:=u.frzs
 tbls:=u.tbls
theorem _root_.L2.iP.sameBut{P:Program}{w:World}{H:Hp}{h x:Heap}{C:Addr}(ok:iP P w H h)(n:iX C h x)(a:H C=none):iP P w H x:=λb u e=>
 (ok b u e).stay (fun c v s q=>n.extBut c v (by
  rintro rfl;rcases s with z|z
  .subst z;rw[a]at e;cases e
  .rw [a]at z;cases z) q) (λ_ q=>q) λ_ _ q=>q
inductive PIfs(X:Cx):Ab->EB->Prop where
 |none:PIfs X [] Cs
 |one {c:Expr}{q:EB}:PT X c (tQ X.K q)->PIfs X [c] q
theorem Kp.bump(x:¬F p)(t:∀xs,H p≠some (.tup xs)):Kp F m H F m (upd H p o):=
 ⟨⟨[],by simp⟩,λ_ h=>h,λb u f h=>by rw[aM (by rintro rfl;exact x f)];exact h,λb xs h=>by rw[aM (by rintro rfl;exact t xs h)];exact h⟩
theorem Stp.bump(s:Stp F m H F' m' H')(x:H p=none):Stp F m H F' m' (upd H' p o) where
 pre:=s.pre
 oth:=λb u h a=>by rw[aM (by rintro rfl;rw[x]at h;cases h)];exact s.oth b u h a
 frz:=s.frz
 frk:=λb u f h=>by rw[aM (by rintro rfl;rw[x]at h;cases h)];exact s.frk b u f h
 tup:=λb xs h=>by rw[aM (by rintro rfl;rw[x]at h;cases h)];exact s.tup b xs h
 trk:=λb h=>by
  by_cases e:b=p
  .subst e;rw[aX];exact λz=>nomatch z
  .rw [aM e];exact s.trk b h
 nf:=s.nf
 nm:=s.nm
theorem Rel.bump(r:Rel K F H m S)(x:¬F p)(s:p ∉ m)(t:∀xs,H p≠some (.tup xs)):Rel K F (upd H p o) m S:=
 r.stayK (Kp.bump x t) (λa u e h=>by rw[aM (by rintro rfl;exact s e)];exact h) (λ_ f=>.inl f) λa f=>by rw[aM (by rintro rfl;exact x f)];exact r.ft a f
theorem Nr:Kp F m H (λb=>F b\/b=p) m H:=⟨⟨[],by simp⟩,λ_ h=>.inl h,λ_ _ _ h=>h,λ_ _ h=>h⟩
theorem Stp.addF(s:Stp F m H F' m' H')(x:H p=none):Stp F m H (λb=>F' b\/b=p) m' H':=
 ⟨s.pre,s.oth,fun b h=>.inl (s.frz b h),s.frk,s.tup,s.trk,fun b h=>by
  rcases h with h|h
  .exact s.nf b h
  .subst h;exact .inr (.inl x),s.nm⟩
theorem Rel.addF(r:Rel K F H m S)(s:p ∉ m)(n:H p≠none):Rel K (λb=>F b\/b=p) H m S where
 len:=r.len
 nd:=r.nd
 obj:=λi a o e x=>(r.obj i a o e x).kp Nr λu h=>h
 sep:=λi a o e x w f=>by
  rcases f with f|f
  .exact r.sep i a o e x w f
  .subst f;exact s (dj e)
 trk:=r.trk
 ft:=λa f=>by
  rcases f with f|f
  .exact r.ft a f
  .subst f;exact n
theorem _root_.L2.Inv.letGo(I:Inv X k J H s)(f:iX h s.heap t)(C:H h=none)(v:X.z.heap.objs.size≤h)(d:h≠X.e.locals)
  (w:∀x c,X.e.cells.lookup x=some c->c≠h) (u:∀p ∈ X.pn++k,p.1≠h):Inv X k J H { s with heap:=t }:=by
 have r:∀b:Addr,b ∉ [h]->b≠h:=λb m z=>m (by simp[z]);refine I.call' (s':={ s with heap:=t }) (i:=[h]) rfl ⟨λb o e _ _ a=>f.extBut b o (r b a) e,λb o e _ _ a=>⟨o.slots,f.extBut b o (r b a) e⟩,λ_ _ _ n _=>n,λb o e a=>⟨o,f.extBut b o (r b a) e⟩,λ_ _ q=>q,λ_ _ _ q=>q,λb g q=>⟨#[],by rw[q];simp⟩⟩ (I.h.sameBut f C) I.bare λb m=>?_;have e:b=h:=by simpa using m
 subst e;exact⟨.inr v,d,w,u⟩
theorem zn(I:Nat->Shared->Prop)
  (u:∀n s,I n s->wpAny (model t w) A (pyNext it) (fun r f=>match r with
   |none=>R (.ok .next) f
   | some v=>wpAny (model t w) A (letOwnedTupleGo tg it v) (fun _ d=>wpAny (model t w) A (assign tg k v) (fun _ g=>
     wpAny (model t w) A (forIn ifs true fun c r=>if r=true then do let ok <- isTrue c k (eval c k);pure (ForInStep.yield ok) else pure (ForInStep.yield r)) (fun ok b=>
      if ok=true then wpAny (model t w) A (eval elt k) (fun x i=>
       wpAny (model t w) A (call (.builtin "list.append") [acc,x]) (λ_ j=>∃m,m < n/\I m j) (notedBy (model t w) A k λe a=>R (.error e) a) i) (notedBy (model t w) A k λe a=>R (.error e) a) b
      else ∃m,m < n/\I m b) (notedBy (model t w) A k λe a=>R (.error e) a) g) (notedBy (model t w) A k λe a=>R (.error e) a) d) (notedBy (model t w) A k λe a=>R (.error e) a) f) (notedBy (model t w) A k λe a=>R (.error e) a) s)
  (n:Nat) (h:I n s):codeAny (model t w) A (.compLoop (.ListComp elt [⟨tg,iter,ifs,0⟩] G M) 0 it acc k) R s:=by
 refine codeAny_loop rfl I (λn s S=>?_) n h;show wpAny _ A ((compTurn (.ListComp elt [⟨tg,iter,ifs,0⟩] G M) 0 it acc k).onRaise (λx=>do noteFrame x k;theTreesLotGoes x)) _ _ s;refine wpAny_noted ?_;rw[compTurn_list];refine ae (mZ (ae (bm (u n s S) (λr f p=>?_) λ_ _ z=>z)));cases r with
 |none=>exact aJ p
 |some v=>
  refine ae (bm p (λ_ d l=>ae (bm l (λ_ g y=>ae (bm y (λok b q=>?_) λ_ _ z=>z)) λ_ _ z=>z)) λ_ _ z=>z);cases ok with
  |false=>exact aJ ⟨rfl,q⟩
  |true=>exact ae (ae (bm q (λx i o=>ae (bm o (λ_ j H=>aJ (aJ ⟨rfl,H⟩)) λ_ _ z=>z)) λ_ _ z=>z))
theorem E1{H:Heap}{tk:Nat}(B:BlockOk X G l q n)(a:Inv X pins J I k)(C:k.heap.objs.size≤h)(f2:∀b ∈ fp,sN X pins I b)(E:∀b ∈ fp,b < k.heap.objs.size)(d:∀b o,k.heap.get? b=some o->H.get? b=some o)
  (hD:I k.heap.objs.size=none) (D:k.heap.objs.size≠h) (A:I h=none) (w:H.Ns h mC) (s:H.get? k.heap.objs.size=some { cls:=.type "list",dict:=none,data:=.seq ([]:LV).toArray }) :
  Inv (inn X G l k I h fp) [] (zD q n J) (upd I k.heap.objs.size (.lst [])) { k with heap:=H,toks:=tk }:=by
 refine⟨BM B a C f2 E,rfl,a.bare,Un.laid d (aw _) hD,?_,λx c e=>?_,?_,λx c e=>?_,λp hp=>absurd (show p ∈ ([]:PN) from hp) (by simp),?_,?_⟩
 .obtain⟨m0,hn0,L⟩:=a.loc;refine⟨_,w,λi x v V W hv=>?_⟩;obtain⟨F,K,P⟩:=xM W;have t:J.length=X.N.length:=a.len;have Q:X.N[i]? = some x:=by
   rw[B.names,jt (by rw[<- t];exact P)];exact V
  have j:(relabel G X.e).names.lookup x=some .local\/(relabel G X.e).names.lookup x=some .cell\/(relabel G X.e).names.lookup x=some .free:=hv;have T:¬(relabel G X.e).names.lookup x=some .local:=λz=>by
   obtain⟨R,m,e|⟨e,_⟩⟩:=er z
   .subst e;exact absurd (B.ts _ m rfl i Q) K
   .cases e
  have N:(x,NameKind.free) ∈ G.names:=by
   rcases j with z|z|z
   .exact absurd z T
   .obtain⟨R,m,e|⟨_,e⟩⟩:=er z
    .subst e;exact absurd rfl (B.cell _ m)
    .subst e;exact m
   .obtain⟨R,m,e|⟨e,_⟩⟩:=er z
    .subst e;exact m
    .cases e
  obtain⟨_,r⟩:=B.fr _ N rfl;have M:CA X.e.scope x:=by
   rcases r with z|z
   .exact .inr (.inl z)
   .exact .inr (.inr z)
  obtain⟨u,ru,lk⟩:=L i x v Q F M;refine⟨u,ru,.inr ⟨?_,?_⟩⟩
  .rcases j with z|z|z
   .exact absurd z T
   .exact .inl z
   .exact .inr z
  .rcases lk with ⟨z,_⟩|⟨_,c,Z,ic⟩
   .rcases r with y|y
    .rw [z]at y;cases y
    .rw [z]at y;cases y
   .obtain⟨c',f⟩:=B.has N;have:=(B.cl a f).1
    rw[Z]at this;cases this;obtain⟨o,g,S⟩:=ic;exact⟨c,f,o,d c o g,S⟩
 .obtain⟨v,o,g,S⟩:=a.cell x c (B.cl a e).1;exact⟨v,o,d c o g,S⟩
 .show upd I k.heap.objs.size (.lst []) h=none;rw[aM (bZ D)];exact A
 .obtain⟨v,o,g,S⟩:=a.cell x c (B.cl a e).1;rw[aM (bO (bg g))];exact a.freeC x c (B.cl a e).1
 .exact a.h.laid d (aw _) ⟨dn _,[],0,.nil,s⟩
 .show (zD q n J).length=l.length;rw[rj,a.len,B.more]
inductive cIv(K:FG)(Y9:Cx)(F1:Aa)(m1:List Addr)(H2:Hp)(A:Addr)(tn:Nat->Heap->Prop)(fp:List Addr)(R:Nat->Nat->Lc->aL->List P->Prop)(ys:List P)(nn:Nat)(sx:Shared):Prop
 |mk (i:Nat) (J':L2.St) (F':Aa) (m':List Addr) (H':Hp) (L':Lc) (S':aL) (acc cu:List P) (xs:List V) (h0_:Inv Y9 [] J' H' sx) (h1_:tn i sx.heap) (h2_:∀b ∈ fp,H' b=none) (h3_:Stp F1 m1 H2 F' m' H') (h4_:Rel K F' H' m' S') (h5_:RL K F' H' m' J' L') (h6_:H' A=some (.lst xs)) (h7_:cI K F' H' acc xs) (h8_:acc.length≤i) (h9_:¬F' A) (ha_:A ∉ m') (hb_:R nn i L' S' cu) (hc_:acc++cu=ys):cIv K Y9 F1 m1 H2 A tn fp R ys nn sx
theorem pC 
  (h:BlockOk X G l q n) (hcalm:X.c=true)
  (hi:PI X tg iter (tI X.K fi)) (hg:∀s H C E,PG (inn X G l s H C E) tg (gT X.K g)) (hc:∀s H C E,PIfs (inn X G l s H C E) ifs fc) (he:∀s H C E,PE (inn X G l s H C E) elt (tV X.K fe))
  (hclos:closureFor G X.e=pure (ll G X.e)) (hs:∀x,foldedSetIterable iter X.e x=pure x)
  (a:Inv X pins J H s) (r:Rel X.K F H m S) (k:RL X.K F H m J L) (t:kn fi q n g fc fe L S=some (d,S2))
  (fin:∀p F' m' H' sx C,Inv X pins J H' sx->Stp F m H F' m' H'->Rel X.K F' H' m' S2->RP X.K F' H' d (.ref p)->H' C=none->X.z.heap.objs.size≤C->C≠X.e.locals->(∀x c,X.e.cells.lookup x=some c->c≠C)->(∀p ∈ X.pn++pins,p.1≠C) ->
   (∃mC,sx.heap.Ns C mC)->compPost (model X.p X.w) X.A X.xe use a0 (.ref p) C (.ok .next) sx) :
  wx X (comprehension (.ListComp elt [⟨tg,iter,ifs,0⟩] G M) G X.e p2 (newList []) false (eval iter X.e) use) a0 X.xe s:=by
 obtain⟨B,S1,e1,t⟩:=ah t;split at t;case isFalse=>cases t
 rename_i hfew;obtain⟨ys,S2',e2,t⟩:=ah t;cases t;refine wpAny_comprehension_free (use:=use) rfl hs hclos h.kind h.loc (cR (hi pins s J H _ a ⟨F,m,L,S,B,S1,r,k,e1,λJ9 j m1 y s1 r1 it=>(show(λJ9 y=>∃j m1,Stp F m H j m1 y/\Rel X.K j y m1 S1/\FT X.K J9 B j m1 y) J9 y from ⟨j,m1,s1,r1,it⟩)⟩) λxv sA hA=>cR hA λitv A h2=>?_);obtain⟨it,E,tn,J9,I,rfl,I2,T,st2,f2,j,m1,s1,r1,itp⟩:=h2;have hfp:∀b ∈ E,b < A.heap.objs.size:=λb Q=>by obtain⟨o,e,_⟩:=T.obj _ _ st2 b Q;exact bg e
 refine m9 ?_ (by show 0≤sizeLine;exact dn _);refine wpAny_newFunctionEnv h.cell (by intro w hy;simp at hy) (λh1 hns1 hsb1=>?_) h.kind;dsimp only at hns1 hsb1 ⊢;have hD:I A.heap.objs.size=none:=I2.h.fresh (aw _);generalize hH2:A.heap.push { cls:=.type "list",dict:=none,data:=.seq ([]:LV).toArray }=P at hns1 hsb1 ⊢;have hC:P.objs.size=A.heap.objs.size+1:=by rw[<- hH2,uJ]
 have D:A.heap.objs.size≤P.objs.size:=by rw[hC];exact qO _
 have old:∀b o,A.heap.get? b=some o->h1.get? b=some o:=λb o e=>hsb1.extBut b o (bO (bG (bg e) D)) (bM _ (hH2 ▸ bM _ e));have hDC:A.heap.objs.size≠P.objs.size:=by rw[hC];exact bO (h7 _)
 have accO:h1.get? A.heap.objs.size=some { cls:=.type "list",dict:=none,data:=.seq ([]:LV).toArray }:=hsb1.extBut _ _ hDC (bM _ (hH2 ▸ eF _ rfl));have hCn:I P.objs.size=none:=I2.h.fresh D;have hCcell:∀x c,X.e.cells.lookup x=some c->c≠P.objs.size:=λx c e z=>by obtain⟨v,o,ho,_⟩:=I2.cell x c e;exact absurd (bg ho) (qN.mpr (by rw[z];exact D))
 have hCloc:P.objs.size≠X.e.locals:=w_ (bG I2.lt D);have hCpin:∀p ∈ X.pn++pins,p.1≠P.objs.size:=λp hp z=>absurd (bg (I2.pin p hp).1) (qN.mpr (by rw[z];exact D));have I3:=E1 (tk:=A.toks+([]:List (Str×Value)).length) h I2 D f2 hfp old hD hDC hCn hns1 accO;have okX:=BM (k:=P.objs.size) h I2 D f2 hfp;have fpH:∀{H':Hp},(∀b ∈ E,H' b=none)->∀b ∈ E,sN (inn X G l A I P.objs.size E) [] H' b:=λhn b Q=>
  ⟨hn b Q,bO (bG (hfp b Q) D),okX.exfs b Q,.inl Q,(okX.exf b Q).2,λp hp=>absurd (show p ∈ ([]:PN) from hp) (by simp)⟩
 have tn1:tn 0 h1:=T.keep _ _ _ st2 λb Q o e=>old b o e;have loop:∀s3:Shared,s3={ A with heap:=h1,toks:=A.toks+([]:List (Str×Value)).length } ->
   codeAny (model X.p X.w) X.A (.compLoop (.ListComp elt [⟨tg,iter,ifs,0⟩] G M) 0 (.ref it) (.ref A.heap.objs.size) (compEnvC G (ll G X.e) P.objs.size X.e))
    (compPost (model X.p X.w) X.A X.xe use a0 (.ref A.heap.objs.size) P.objs.size) s3:=by
  rintro s3 rfl;refine zn (cIv X.K (inn X G l A I P.objs.size E) j m1 I A.heap.objs.size tn E (λnn i L' N cu=>nn=B.length-i/\i≤B.length/\jg g fc fe (B.drop i) L' N=some (cu,S2)) ys) ?_ B.length ?_
  .rintro nn sx ⟨i,J',F',m',H',L',N,acc,cu,xs,I',tn',fr',st',r',l',hacc,ra,hal,nF,nm,⟨rfl,hi',V⟩,rfl⟩;obtain⟨hgo,hstop⟩:=itp F' m' H' st';by_cases hlt:i < B.length
   .have hv:B[i]? = some B[i]:=by simp[hlt]
    rw[wZ hlt]at V;obtain⟨hgo1,hy⟩:=hgo i _ hv;refine bm (T.item (inn X G l A I P.objs.size E) rfl rfl rfl hcalm i [] sx J' H' (λ_ _=>False) I' (fpH fr') tn' hgo1) (λrr sy hr=>?_) (λ_ _ f=>f.elim);obtain⟨u,rfl,hr⟩:=hr;refine bm hr (λ_ sz hz=>?_) (λ_ _ f=>f.elim);obtain⟨x,H3,I4,rx,yl,tn4,fr4⟩:=hz;obtain⟨F3,gr,p3⟩:=hy x H3 yl;have st4:Stp j m1 I F3 m' H3:=st'.trans gr.stp;have r4:=r'.grow gr;have l4:=l'.mono (gr.stp (m:=m'));have acc4:=gr.keep _ _ hacc;have nF4:¬F3 A.heap.objs.size:=λz=>by
     rcases gr.nf _ z with z|⟨z,_⟩
     .exact nF z
     .rw [hacc]at z;cases z
    have I4':=I4.pinned (fpH fr4) (T.obj _ _ tn4);have back:∀{J7:L2.St}{H7:Hp}{s7:Shared},Inv (inn X G l A I P.objs.size E) ([]++lb E sz.heap) J7 H7 s7->tn (i+1) s7.heap/\∀b ∈ E,H7 b=none:=λ{J7 H7 s7} I7=>
     ⟨T.keep _ _ _ tn4 λb Q o e=>(I7.pin (b,o) (b_ _ (b_ _ (im Q e)))).1,λb Q=>by obtain⟨o,e,dd⟩:=T.obj _ _ tn4 b Q;exact(I7.pin (b,o) (b_ _ (b_ _ (im Q e)))).2.1⟩
    unfold jg at V;cases eg:g B[i] L' with
    |none=>rw[eg]at V;cases V
    |some L1=>
     rw[eg]at V;dsimp only at V;obtain⟨kk,S5,e5,V⟩:=ah V;refine bm (hg A I P.objs.size E _ sz J' H3 x u (λJ5 H5=>H5=H3/\RL X.K F3 H3 m' J5 L1) I4' rx ⟨F3,m',L',B[i],L1,l4,p3,eg,λJ5 l5=>⟨rfl,l5⟩⟩) (λ_ s5 h5=>?_) (λ_ _ f=>f.elim);obtain⟨J5,H5,I5,rfl,l5⟩:=h5;have test:wx X (forIn ifs true λc r=>if r=true then do let ok <- isTrue c (compEnvC G (ll G X.e) P.objs.size X.e) (eval c (compEnvC G (ll G X.e) P.objs.size X.e));pure (ForInStep.yield ok) else pure (ForInStep.yield r))
       (λok s6=>ok=kk/\∃W m6 H6,Inv (inn X G l A I P.objs.size E) ([]++lb E sz.heap) J5 H6 s6/\Stp F3 m' H5 W m6 H6/\Rel X.K W H6 m6 S5) (λ_ _=>False) s5:=by
      have hcc:=hc A I P.objs.size E;cases hcc with
      |none=>cases e5;exact wpAny_tests_nil ⟨rfl,F3,m',H5,I5,.refl,r4⟩
      |one hq=>refine wpAny_tests_one (bm (hq _ s5 J5 H5 (λb H6=>b=kk/\∃W m6,Stp F3 m' H5 W m6 H6/\Rel X.K W H6 m6 S5) I5 ⟨F3,m',L1,N,kk,S5,r4,l5,e5,λW m6 H6 s6 r6=>⟨rfl,W,m6,s6,r6⟩⟩) (λb s6 h6=>?_) λ_ _ f=>f);obtain⟨H6,I6,rfl,W,m6,R,r6⟩:=h6;exact⟨rfl,W,m6,H6,I6,R,r6⟩
     refine bm test (λok s6 h6=>?_) (λ_ _ f=>f.elim);obtain⟨rfl,W,m6,H6,I6,R,r6⟩:=h6;have Z:=R.oth _ _ acc4 nm;have nm6:A.heap.objs.size ∉ m6:=λz=>by
      rcases R.nm _ z with z|z
      .exact nm z
      .rw [acc4]at z;cases z
     have nF6:¬W A.heap.objs.size:=λz=>by
      rcases R.nf _ z with z|z|z
      .exact nF4 z
      .rw [acc4]at z;cases z
      .exact nm z
     have ra6:=cI.mono R (ra.grow gr);have l6:=l5.mono R;cases ok with
     |false=>rw[ar bA]at V ⊢;obtain⟨t7,f7⟩:=back I6;exact⟨B.length-(i+1),by lia,i+1,J5,W,m6,H6,L1,S5,acc,cu,xs,I6.pins_of λp hp=>absurd hp (by simp),t7,f7,st4.trans R,r6,l6,Z,ra6,Nat.le_succ_of_le hal,nF6,nm6,⟨rfl,hlt,V⟩,rfl⟩
     |true=>
      rw[ai rfl]at V ⊢;obtain⟨w,S8,e8,V⟩:=ah V;obtain⟨zs,S9,e9,V⟩:=ah V;cases V;refine bm (he A I P.objs.size E _ s6 J5 H6 (λv8 H8=>∃F8 m8,Stp W m6 H6 F8 m8 H8/\Rel X.K F8 H8 m8 S8/\RP X.K F8 H8 w v8) I6 ⟨W,m6,L1,S5,w,S8,r6,l6,e8,λv8 F8 m8 H8 s8 r8 p8=>⟨F8,m8,s8,r8,p8⟩⟩) (λu8 s8 h8=>?_) (λ_ _ f=>f.elim);obtain⟨v8,H8,I8,rv8,F8,m8,st8,r8,p8⟩:=h8;have acc8:=st8.oth _ _ Z nm6;have nm8:A.heap.objs.size ∉ m8:=λz=>by
       rcases st8.nm _ z with z|z
       .exact nm6 z
       .rw [Z]at z;cases z
      have nF8:¬F8 A.heap.objs.size:=λz=>by
       rcases st8.nf _ z with z|z|z
       .exact nF6 z
       .rw [Z]at z;cases z
       .exact nm6 z
      have ra8:=cI.mono st8 ra6;have nt8:∀zs,H8 A.heap.objs.size≠some (.tup zs):=λzs z=>by rw[acc8]at z;cases z
      have hl8:xs.length < sizeLine:=by have h9:B.length≤1000000:=bq hfew;rw[<- ra8.length];exact bG (qT hal hlt) (bN h9 (by decide))
      refine bm (pc (X:=inn X G l A I P.objs.size E) _ s8 J5 H8 (.ref A.heap.objs.size) [v8] (.ref A.heap.objs.size) [u8] (λ_ H9=>H9=upd H8 A.heap.objs.size (.lst (xs++[v8]))) I8 rfl (.cons rv8 .nil) ⟨_,xs,v8,rfl,rfl,acc8,hl8,rfl⟩) (λ_ s9 h9=>?_) (λ_ _ f=>f.elim);obtain⟨_,H9,I9,_,rfl⟩:=h9;obtain⟨t9,f9⟩:=back I9;have kb:Kp F8 m8 H8 F8 m8 (upd H8 A.heap.objs.size (.lst (xs++[v8]))):=Kp.bump nF8 nt8;have st9:Stp j m1 I F8 m8 (upd H8 A.heap.objs.size (.lst (xs++[v8]))):=(st4.trans (R.trans st8)).bump hD;have l9:RL X.K F8 (upd H8 A.heap.objs.size (.lst (xs++[v8]))) m8 J5 L1:=⟨l6.len,λK dd e=>by obtain⟨v,e1,rr⟩:=(l6.mono st8).at' K dd e;exact⟨v,e1,RD.kp kb rr⟩⟩
      exact⟨B.length-(i+1),by lia,i+1,J5,F8,m8,_,L1,S8,acc++[w],zs,xs++[v8],I9.pins_of fun p hp=>absurd hp (by simp),t9,f9,st9,r8.bump nF8 nm8 nt8,l9,aX,
       cI.kp kb (ra8.append ⟨v8,[],rfl,p8,rfl⟩),by rw[aN];exact Nat.succ_le_succ hal,nF8,nm8,⟨rfl,hlt,e9⟩,by simp⟩
   .have e:i=B.length:=by lia
    subst e;rw[qG]at V;cases V;refine bm (T.done (inn X G l A I P.objs.size E) rfl rfl rfl hcalm B.length [] sx J' H' (λ_ _=>False) I' (fpH fr') tn' hstop) (λrr sy hr=>?_) (λ_ _ f=>f.elim);obtain⟨rfl,I5⟩:=hr;rw[dZ] at *
    have Iout:Inv X pins J H' sy:=I2.call' (i:=E) I5.os I5.base I5.h I5.bare λb Q=>⟨(f2 b Q).2.2.2.1,(f2 b Q).2.1,(f2 b Q).2.2.2.2.1,(f2 b Q).2.2.2.2.2⟩;have hD0:H A.heap.objs.size=none:=by
     cases t:H A.heap.objs.size with
     |none=>rfl
     |some o=>exact absurd hD (s1.trk _ (by rw[t];exact λz=>nomatch z))
    have hCH:H' P.objs.size=none:=I5.free;obtain⟨mC,hmC,_⟩:=I5.loc;exact fin A.heap.objs.size (λb=>F' b\/b=A.heap.objs.size) m' H' sy P.objs.size Iout ((s1.trans st').addF hD0) (r'.addF nm (by rw[hacc];exact λz=>nomatch z))
     ⟨_,xs,rfl,⟨.inr rfl,hacc⟩,cI.kp (m:=m') Nr ra⟩ hCH (bN I2.sz D) hCloc hCcell hCpin ⟨mC,hmC⟩
  .exact⟨0,_,j,m1,_,zD q n L,S1,[],ys,[],I3,tn1,λb Q=>by rw[aM (bO (hfp b Q))];exact(f2 b Q).1,(bQ hD).stp,r1.grow (bQ hD),((k.mono s1).mono (bQ hD).stp).up q n,aX,rfl,dn _,r1.fresh_F hD,r1.fresh_m hD,⟨rfl,dn _,by rw[ke];exact e2⟩,rfl⟩
 exact codeAny_compStart_list (loop _ rfl) (T.self X.A 0 _ _ _ tn1 (loop _ rfl))
theorem Jr(B:BlockOk X G l q n)(c:X.c=true)
  (A:PI X tg iter (tI X.K fi)) (P:∀s H C f,PG (inn X G l s H C f) tg (gT X.K g)) (z:∀s H C f,PIfs (inn X G l s H C f) ifs fc) (K:∀s H C f,PE (inn X G l s H C f) t (tV X.K fe))
  (o:closureFor G X.e=pure (ll G X.e)) (D:∀x,foldedSetIterable iter X.e x=pure x:=by intro _;rfl) :
  PE X (.ListComp t [⟨tg,iter,ifs,0⟩] G M) (tV X.K (kn fi q n g fc fe)):=by
 intro i s J H Q I ⟨F,m,L,S,d,N,r,h,a,k⟩;rw[eval_ListComp];refine pC B c A P z K o D I r h a λp F' m' H' sx C b st T V y v w u j E=>?_
 obtain⟨R,e⟩:=E;exact⟨R,e,λZ W=>⟨.ref p,H',b.letGo W y v w u j,rfl,k _ F' m' H' st T V⟩⟩
theorem Ja(i:Nat)(hN:X.N.Nodup)(B:BlockOk X G l q n)(c:X.c=true)
  (hi:PI X tg iter (tI X.K fi)) (hg:∀s H C b,PG (inn X G l s H C b) tg (gT X.K g)) (hc:∀s H C b,PIfs (inn X G l s H C b) ifs fc) (he:∀s H C b,PE (inn X G l s H C b) t (tV X.K fe))
  (o:closureFor G X.e=pure (ll G X.e)) (P:swapsWith (.ListComp t [⟨tg,iter,ifs,0⟩] G M) (some (.Name x px)) spos.line X.e=pure true:=by rfl)
  (hs:∀x,foldedSetIterable iter X.e x=pure x:=by intro _;rfl) (z:X.N[i]? = some x:=by rfl) (hx:Loc X.e.scope x:=by first|exact Or.inl rfl|exact Or.inr rfl)
  (hf:X.fn x=true\/X.e.scope.names.lookup x=some .local:=by first|exact .inl rfl|exact .inr rfl|assumption) :
  PS X (.Assign [.Name x px] (.ListComp t [⟨tg,iter,ifs,0⟩] G M) spos) (iG X.K (aP i (U (kn fi q n g fc fe)))):=by
 intro j s J H D I ⟨F,m,L,S,fl,L',N,r,h,f,k⟩;obtain⟨d,S1,W,f⟩:=ah f;cases f;obtain⟨v,S2,Z,e3⟩:=ah W;cases e3;rw[exec_Assign_Name_used _ _ _ _ P];refine ae (mZ (ae ?_));show wpAny _ _ (do let _ <- comprehension (.ListComp t [⟨tg,iter,ifs,0⟩] G M) G X.e _ (newList []) false (eval iter X.e) (some (assign (.Name x px) X.e))) _ _ s;refine ae (bm (pC (use:=some (assign (.Name x px) X.e)) (a0:=λ_ A=>SP X j D .next A) B c hi hg hc he o hs I r h Z λp F' m' H' sx C V st r' rp hC h0 R T h3 hz=>?_) (λ_ A hq=>aJ (aJ hq)) λ_ _ e=>e);obtain⟨mC,K⟩:=hz;refine xr (k' V hN z hx (v:=.ref p) rfl (λA y u=>?_) hf);refine⟨mC,?_,λh' sb=>⟨_,H',y.letGo sb hC h0 R T h3,k _ F' m' H' st r' ((h.mono st).set (d:=.p v) rp i)⟩⟩;obtain⟨a,E,w⟩:=u;refine K.sameBut E ?_;rcases w with w|w
 .rw [w];exact R
 .exact bZ (T x a w)
end
end Ev
namespace Ev
open PySem PySem.Spec PyProof.Rows L2
section
variable{X:Cx}{a b e:Expr}{es:Ab}{C N:EV}{fs:gc}{E p:Pos}
noncomputable def kG:P->Option P
 | .int i=>some (.int (-i))
 |_=>none
theorem Mz(f:PE X a (tV X.K C)):PE X (.UnaryOp .USub a E) (tV X.K (yH kG C)):=(Ke Gf f).imp' λJ H Q z=>by
 obtain⟨F,m,L,S,d,t,r,l,q,k⟩:=z;obtain⟨x,w,n,q⟩:=ah q;cases x with
 |int i=>cases q;exact⟨F,m,L,S,_,_,r,l,n,λv h b e s c p=>⟨i,p,k _ h b e s c rfl⟩⟩
 |_=>cases q
noncomputable def g_:List P->Option P
 | [.int i,.int j]=>some (.int (if j > i then j else i))
 |_=>none
noncomputable def fX:List P->Option P
 | [.int i,.int j]=>some (.int (if j < i then j else i))
 |_=>none
noncomputable def yt:List P->Option P
 | [.int i]=>some (.int i)
 | [.bl b]=>some (.int (if b then 1 else 0))
 |_=>none
theorem J_{K:FG}{F:Aa}{H:Hp}{d h:P}{s:List V}(r:cI K F H [d,h] s):∃x y,s=[x,y]/\RP K F H d x/\RP K F H h y:=by obtain⟨x,f,rfl,p,e⟩:=r;obtain⟨y,n,rfl,a,k⟩:=e;cases (show n=[] from k);exact⟨x,y,rfl,p,a⟩
theorem AQ{K:FG}{F:Aa}{H:Hp}{d:P}{s:List V}(r:cI K F H [d] s):∃x,s=[x]/\RP K F H d x:=by obtain⟨x,h,rfl,p,a⟩:=r;cases (show h=[] from a);exact⟨x,rfl,p⟩
theorem Fe(c:X.c=true):dc X (.builtin "max") (rC X.K g_):=by
 intro B s J H b u Q I r h;obtain⟨F,n,d,f,e,q,k⟩:=h;unfold g_ at q;split at q
 .cases q;obtain⟨x,y,rfl,p,a⟩:=J_ e;exact zt c B s J H _ u Q I r ⟨_,_,by rw[show x=_ from p,show y=_ from a],k _ F H .refl rfl⟩
 .cases q
theorem Fd(c:X.c=true):dc X (.builtin "min") (rC X.K fX):=by
 intro B s J H b u Q I r h;obtain⟨F,n,d,f,e,q,k⟩:=h;unfold fX at q;split at q
 .cases q;obtain⟨x,y,rfl,p,a⟩:=J_ e;exact zr c B s J H _ u Q I r ⟨_,_,by rw[show x=_ from p,show y=_ from a],k _ F H .refl rfl⟩
 .cases q
theorem Ff:dc X (.type "int") (rC X.K yt):=by
 intro B s J H n u Q I r h;obtain⟨F,e,d,f,a,q,k⟩:=h;unfold yt at q;split at q
 .cases q;obtain⟨x,rfl,p⟩:=AQ a;exact pD B s J H _ u Q I r (.inl ⟨_,by rw[show x=_ from p],k _ F H .refl rfl⟩)
 .cases q;obtain⟨x,rfl,p⟩:=AQ a;exact pD B s J H _ u Q I r (.inr ⟨_,by rw[show x=_ from p],k _ F H .refl rfl⟩)
 .cases q
theorem Jk(g:Gl X "max")(m:X.g "max"=none)(a:PA X (e::es) (sQ X.K fs))(c:X.c=true:=by rfl)
  (x:starEach (e::es) X.e=(false,eval e X.e)::starEach es X.e:=by rfl) (h:(backTo E (starEach es X.e)).any (·.1)=false:=by rfl):PE X (.Call (.Name "max" p) (e::es) [] E) (tV X.K (ck g_ fs)):=z9 (Fe c) g m Dk a (by decide) (by decide) x h
theorem Jj(g:Gl X "min")(m:X.g "min"=none)(a:PA X (e::es) (sQ X.K fs))(c:X.c=true:=by rfl)
  (x:starEach (e::es) X.e=(false,eval e X.e)::starEach es X.e:=by rfl) (h:(backTo E (starEach es X.e)).any (·.1)=false:=by rfl):PE X (.Call (.Name "min" p) (e::es) [] E) (tV X.K (ck fX fs)):=z9 (Fd c) g m Dl a (by decide) (by decide) x h
noncomputable def Kj(d:D)(S:aL):Option (Nat×List dX×List D):=match d with
 | .ref i=>match S[i]? with
  |some (.dct k v)=>some (i,k,v)
  |_=>none
 |_=>none
end
section
variable{X:Cx}{a b c e:Expr}{es:Ab}{C N d:EV}{fs:gc}{E p:Pos}
abbrev zm:P->P->Option P:=Ot
theorem KE(_:X.A.units+1 < cLine):o0 X (compareOp .Eq) zm:=Nk
noncomputable def signs(x:Str):List P:=x.cps.toList.map λc=>.str ⟨#[c]⟩
noncomputable def OD(x:Str):It:=⟨λi _=>i < x.cps.size,λi H v h=>h=H/\∃c,x.cps[i]? = some c/\v=.str ⟨#[c]⟩,λi _=>x.cps.size≤i⟩
theorem yI{P:Program}{w:World}{K:FG}{N:Expr}(n:Addr)(x:Str)(t:Tok):Turn P w K N (OD x) [n] n (λi h=>h.IsStrIter n "str_ascii_iterator" x t i) where
 mem:=by simp
 obj:=λi h st b a=>by
  have e:b=n:=by simpa using a
  subst e;obtain⟨o,e,c,d⟩:=st;exact⟨o,e,λv z=>by rw[d]at z;cases z⟩
 keep:=λi h m st k=>let ⟨o,e,r⟩:=st;⟨o,k n (by simp) o e,r⟩
 item:=by
  intro X S F y A i B s J H E I p st g;subst S F y;obtain⟨q,u,L,f3,j,l⟩:=p n (by simp);have C:x.cps[i]? = some (x.cps[i]'g):=Array.getElem?_eq_getElem g;refine wpAny_pyNext_ascii_item st C λm f M=>?_
  have D:L2.Inv X B J H { s with heap:=m,toks:=s.toks+1 }:=I.turned (λb o a e=>(M.2 b a).trans e) q u f3 j l;obtain⟨o,e,c,d⟩:=id f;exact⟨_,rfl,ua (s:={ s with heap:=m,toks:=s.toks+1 }) e c d (by decide) ⟨.str ⟨#[x.cps[i]'g]⟩,H,D,⟨_,rfl⟩,⟨rfl,_,C,rfl⟩,f,λb a=>(p b a).1⟩⟩
 done:=by intro X S F y A i B s J H E I p st g;subst S F y;obtain⟨q,u,L,f3,j,l⟩:=p n (by simp);exact wpAny_pyNext_ascii_end (I.o.hd A) st (by rw[Array.getElem?_eq_none_iff];exact g) λm G=>⟨rfl,I.turned (t':=s.toks) (λb o a e=>G b o a e) q u f3 j l⟩
 self:=λ_ _ _ _ _ st h=>wpAny_pyIter_striter_ascii st h
theorem Hs{K:FG}{F:Aa}{m:List Addr}{H:Hp}{x:Str}:FT K (OD x) (signs x) F m H:=by
 intro a r f s;have h:(signs x).length=x.cps.size:=by unfold signs;simp
 refine⟨λi v e=>?_,by show x.cps.size≤(signs x).length;rw[h];exact aw _⟩;have k:i < x.cps.size:=by rw[<- h];exact(bt.mp e).1
 refine⟨k,λy b z=>?_⟩;obtain⟨rfl,c,n,rfl⟩:=z;refine⟨a,.refl,?_⟩;unfold signs at e;rw[jr,wz,n]at e;cases e;exact rfl
@[simp] def IG(a:EV)(L:Lc)(S:aL):DF:=bC (a L S) λv h=>match v with
 | .lst s=>some (s,h)
 | .ro s=>some (s,h)
 | .tup s=>some (s,h)
 | .str x=>if (x.cps.all (· < 128))=true then some (signs x,h) else none
 |_=>none
theorem iS{T iter:Expr}(h:PE X iter (tV X.K C)):PI X T iter (tI X.K (IG C)):=by
 intro B s J H R I ⟨F,m,L,S,vs,S',r,l,q,k⟩;obtain⟨v,D,e1,q⟩:=ah q;refine cR (h B s J H (λx f=>∃d g,Stp F m H d g f/\Rel X.K d f g D/\RP X.K d f v x) I ⟨F,m,L,S,v,D,r,l,e1,λx d g f n G j=>⟨d,g,n,G,j⟩⟩) λu n E=>?_
 obtain⟨x,f,c,M,d,g,st,G,j⟩:=E;have mk:∀{N:It},FT X.K N vs d g f->D=S'->R N f:=λit e=>by subst e;exact k _ d g f st G it
 have i:∀{a:Addr}{A:List V},x=.ref a->iA X.K f a A->R (Me X.K a) f->wx X (pyIter u) (N1 X B J T R) X.xe n:=λ{a A} e hq q=>by
  subst e;cases M;obtain⟨K,rv,p,E⟩:=c.list hq;refine wpAny_pyIter_list p.isList ?_;refine⟨n.heap.objs.size,[n.heap.objs.size],_,_,f,rfl,c.kept (t':=n.toks) λb o e=>bM _ e,yJ a _,⟨_,eF _ rfl,rfl,rfl⟩,λb y=>?_,q⟩;have e:b=n.heap.objs.size:=by simpa using y
  subst e;exact c.fpOk (aw _) (c.h.fresh (aw _))
 cases v with
 |lst Q=>cases q;obtain⟨a,A,rfl,w,P⟩:=j;exact i rfl w.sq (mk (BE (λW m2 Z s=>(w.kp s.kp).sq) P) rfl)
 |ro Q=>cases q;obtain⟨a,A,rfl,w,P⟩:=j;exact i rfl w.sq (mk (BE (λW m2 Z s=>(w.kp s.kp).sq) P) rfl)
 |tup Q=>
  cases q;obtain⟨a,A,rfl,w,P⟩:=j;cases M;obtain⟨K,rv,pp,E⟩:=c.tuple w.sq;refine wpAny_pyIter_tuple (show n.heap.IsTuple a K.toArray from pp) ?_;refine⟨n.heap.objs.size,[n.heap.objs.size],_,_,f,rfl,c.kept (t':=n.toks) λb o e=>bM _ e,uS a _,⟨_,eF _ rfl,rfl,rfl⟩,λb y=>?_,mk (Ht w P) rfl⟩;have e:b=n.heap.objs.size:=by simpa using y
  subst e;exact c.fpOk (aw _) (c.h.fresh (aw _))
 |str z=>
  dsimp only at q;split at q
  .rename_i ha;cases q;cases (show x=.str z from j);obtain⟨t,rfl⟩:=(show ∃t,u=Value.str z t from M);refine wpAny_pyIter_ascii ha ?_;refine⟨n.heap.objs.size,[n.heap.objs.size],_,_,f,rfl,c.kept (t':=n.toks) λb o e=>bM _ e,yI _ z t,⟨_,eF _ rfl,rfl,rfl⟩,λb y=>?_,mk Hs rfl⟩;have e:b=n.heap.objs.size:=by simpa using y
   subst e;exact c.fpOk (aw _) (c.h.fresh (aw _))
  .cases q
 |_=>cases q
noncomputable def OF(lo step:Int)(n:Nat):It:=⟨λi _=>i < n,λi H x h=>h=H/\x=.int (lo+(i:Nat) * step),λi _=>n≤i⟩
theorem sX{P:Program}{w:World}{K:FG}{L:Expr}(x:Addr)(lo step:Int)(n:Nat):Turn P w K L (OF lo step n) [x] x (λi h=>IsRangeIter h x (lo+(i:Nat) * step) ((n:Int)-(i:Nat)) step) where
 mem:=by simp
 obj:=λi h st b a=>by
  have e:b=x:=by simpa using a
  subst e;exact⟨_,st,λv z=>by have M:Data.fields _=Data.cell v:=z;cases M⟩
 keep:=λi h c st k=>k x (by simp) _ st
 item:=by
  intro X g y u j i B s J H E I m st l;subst g y u;obtain⟨r,p,C,f3,q,d⟩:=m x (by simp);have W:=Walks.range (prog:=X.p) (w:=X.w) (I.o.hd j) x lo step n;refine W.item i s _ _ l st λv c S D f G=>?_
  obtain⟨t,rfl⟩:=D;have F:L2.Inv X B J H { s with heap:=c,toks:=S }:=I.turned (λb o a e=>G b o (by simpa using a) e) r p f3 q d;exact⟨_,rfl,ua (s:={ s with heap:=c,toks:=S }) (n:="range_iterator") f rfl rfl (by decide) ⟨.int (lo+(i:Nat) * step),H,F,⟨t,rfl⟩,⟨rfl,rfl⟩,f,λb a=>(m b a).1⟩⟩
 done:=by intro X g y u j i B s J H E I m st l;subst g y u;obtain⟨r,p,C,f3,q,d⟩:=m x (by simp);exact xD (I.o.hd j) st (by have:n≤i:=l;lia) λc A=>⟨rfl,I.turned (t':=s.toks) (λb o a e=>A b o a e) r p f3 q d⟩
 self:=λ_ _ _ _ _ st h=>xB st h
noncomputable def gN(lo h step:Int):Nat:=(if lo < h then (h-lo-1) / step+1 else 0).toNat
noncomputable def gP(lo step:Int)(n:Nat):List P:=(List.range n).map λ(i:Nat)=>.int (lo+(i:Int) * step)
def vj(a b c:EV):gc:=λL S=>bC (a L S) λx e=>bC (b L e) λy s=>bC (c L s) λz n=>match x,y,z with
 | .int lo,.int h,.int st=>if (decide (lo.natAbs < 1000000) && decide (h.natAbs < 1000000) && decide (0 < st) && decide (st < 1000000))=true then some (gP lo st (gN lo h st),n) else none
 |_,_,_=>none
theorem Hu{K:FG}{F:Aa}{m:List Addr}{H:Hp}{lo step:Int}{n:Nat}:FT K (OF lo step n) (gP lo step n) F m H:=by
 intro a b k s;have l:(gP lo step n).length=n:=by unfold gP;simp
 refine⟨λi v e=>?_,by show n≤(gP lo step n).length;rw[l];exact aw _⟩;have h:i < n:=by rw[<- l];exact(bt.mp e).1
 refine⟨h,λx f z=>?_⟩;obtain⟨rfl,rfl⟩:=z;refine⟨a,.refl,?_⟩;unfold gP at e;simp[h]at e;subst e;exact rfl
theorem P0{tg:Expr}(hg:Gl X "range")(hm:X.g "range"=none)(ha:PE X a (tV X.K C))(D:PE X b (tV X.K N))(hc:PE X c (tV X.K d))(hs:starEach [a,b,c] X.e=[(false,eval a X.e),(false,eval b X.e),(false,eval c X.e)]:=by rfl)(f:starEach [b,c] X.e=[(false,eval b X.e),(false,eval c X.e)]:=by rfl)(i:starEach [c] X.e=[(false,eval c X.e)]:=by rfl) :
  PI X tg (.Call (.Name "range" p) [a,b,c] [] E) (tI X.K (vj C N d)):=by
 intro B s J H R I ⟨F,m,L,S,vs,S',r,l,q,k⟩;obtain⟨x,S1,P,q⟩:=ah q;obtain⟨y,S2,A,q⟩:=ah q;obtain⟨z,Z,e3,q⟩:=ah q;have hA:PA X [a,b,c] (sQ X.K (aH C (aH N (aH d d_)))):=yE ha (yE D (yE hc Lp (by rw[i];rfl)) (by rw[f,i])) (by rw[hs,f]);refine Call_ (nX I hg hm boot_range (qz (cR (hA E B s J H (λW t=>∃v w,Stp F m H v w t/\Rel X.K v t w Z/\cI X.K v t [x,y,z] W) I ⟨F,m,L,S,[x,y,z],Z,r,l,?_,λW v w t u T Q=>⟨v,w,u,T,Q⟩⟩) λus u ⟨W,t,I1,rv,v,w,st,T,Q⟩=>?_) (by rw[hs,f]) (by rw[f];rfl)))
 .simp only[aH,d_,P,A,e3,hB]
 obtain⟨x1,xr1,rfl,px,q1⟩:=Q;obtain⟨y1,xr2,rfl,py,q2⟩:=q1;obtain⟨z1,V,rfl,pz,q3⟩:=q2;cases (show V=[] from q3);cases x with
 |int lo=>
  cases y with
  |int h=>
   cases z with
   |int stp=>
    dsimp only at q;split at q
    .rename_i g;simp only[aC,jF]at g;obtain⟨⟨⟨c1,c2⟩,c3⟩,c4⟩:=g;cases q;cases (show x1=.int lo from px);cases (show y1=.int h from py);cases (show z1=.int stp from pz);cases rv with
     |cons ra j=>
      cases j with
      |cons rb j=>
       cases j with
       |cons rc j=>
        cases j;obtain⟨t1,rfl⟩:=ra;obtain⟨t2,rfl⟩:=rb;obtain⟨t3,rfl⟩:=rc;refine call_range_3 (by lia) ?_ (.inl (PyProof.noPylong_small (by lia)));have sz:gi lo h stp=((gN lo h stp:Nat):Int):=by
         unfold gi gN;rw[ai (by lia)];split
         .have:0≤(h-lo-1) / stp:=Int.ediv_nonneg (by lia) (by lia);lia
         .rfl
        have M:gi lo h stp≤4000000:=by
         unfold gi;rw[ai (by lia)];split
         .have:(h-lo-1) / stp≤h-lo-1:=Int.ediv_le_self _ (by lia);lia
         .lia
        refine xu (IsRange.new ..) ?_ ?_
        .have G:0≤gi lo h stp:=by rw[sz];lia
         unfold Di;generalize gi lo h stp=n at M G;simp only[Dh,aC,jp,jF,jU];refine⟨⟨⟨⟨by lia,by lia⟩,by lia⟩,by lia⟩,?_⟩;refine .inr ?_;rw[ai (by lia),fE (by lia),fE (by lia)];rfl
        .have K:L2.Inv X B J t { u with heap:=u.heap.push { cls:=.type "range",data:=.fields #[.int lo t1,.int h t2,.int stp t3] } }:=I1.kept (t':=u.toks) λb o e=>bM _ e;refine⟨_,[_],_,_,t,rfl,K.kept (t':=u.toks) λb o e=>bM _ e,sX _ lo stp (gN lo h stp),?_,λb D=>?_,k _ v w t st T Hu⟩
         .have P:lo+((0:Nat):Int) * stp=lo:=by simp
          have A:((gN lo h stp:Nat):Int)-((0:Nat):Int)=gi lo h stp:=by rw[sz];lia
          show IsRangeIter _ _ (lo+((0:Nat):Int) * stp) (((gN lo h stp:Nat):Int)-((0:Nat):Int)) stp;rw[P,A];exact eF _ rfl
         .have e:=(List.mem_singleton.mp D);rw[e];exact K.fpOk (aw _) (K.h.fresh (aw _))
    .cases q
   |_=>cases q
  |_=>cases q
 |_=>cases q
end
section
variable{X:Cx}{E p:Pos}
noncomputable abbrev DE:=List (Str×EV)
noncomputable def vu:DE:=[]
noncomputable def dU(k:Str)(f:EV)(r:DE):DE:=(k,f)::r
def rg:DE->gc
 | []=>d_
 |(_,f)::r=>aH f (rg r)
noncomputable def kv(l:DE):List dX:=l.map λx=>.inr x.1
def nC(l:DE):EV:=λL S=>bC (rg l L S) λv h=>if (kv l).Nodup/\l.length≤15 then some (.dct (kv l) v,h) else none
def Jz(K:FG)(l:DE):List (TE×TE):=l.map λx=>(tV K (vC (.str x.1)),tV K x.2)
def KD(X:Cx)(E:Pos)(k:List (Option Expr))(v:Ab)(l:DE):Prop:=Lr X E k v (Jz X.K l)
theorem Nu:KD X E [] [] vu:=D9
theorem KQ(h:PE X r (tV X.K (vC (.str x))))(e:PE X v (tV X.K f))(a:KD X E Q vs u):KD X E (some r::Q) (v::vs) (dU x f u):=AY h e a
theorem tF{K:FG}{J:L2.St}{L:Lc}:∀{l:DE}{F:Aa}{m:List Addr}{H:Hp}{S a:aL}{e:List P}{Q:List (V×V)->Hp->Prop},Rel K F H m S->RL K F H m J L->rg l L S=some (e,a) ->
  (∀s n c h,Stp F m H n c h->Rel K n h c a->cI K n h e s->Q ((l.map (·.1)).zipWith (λk x=>(V.str k,x)) s) h)->rD (Jz K l) J H Q
 | [],F,m,H,S,a,e,Q,r,l,q,k=>by cases q;exact k [] F m H .refl r rfl
 |(x,f)::cu,F,m,H,S,a,e,Q,r,l,q,k=>by obtain⟨y,i,j,q⟩:=ah (show bC (f L S) _=_ from q);obtain⟨X,T,z,q⟩:=ah q;cases q;refine⟨F,m,L,S,.str x,S,r,l,rfl,λv d o N b E B=>?_⟩;refine⟨d,o,L,S,y,i,E,l.mono b,j,λw M W R t G C=>?_⟩;refine tF G ((l.mono b).mono t) z λs u A g p I D=>?_;cases (show v=.str x from B);exact k (w::s) u A g (b.trans (t.trans p)) I ⟨w,s,rfl,RP.mono p C,D⟩
theorem ku:∀{m s:List (dX×V)},((s++m).map (·.1)).Nodup->i_ s m=s++m
 | [],s,_=>by simp[i_]
 |(k,v)::m,s,n=>by
  have b:ia s k=none:=by
   cases e:ia s k with
   |none=>rfl
   |some w=>
    exfalso;unfold ia at e;cases f:s.find? (λc=>decide (c.1=k)) with
    |none=>rw[f]at e;cases e
    |some q=>have h:=mK f;have x:=mz f;have a:q.1=k:=bq x;rw[kf,wL]at n;exact n.2.2 q.1 (hV.mpr ⟨q,h,rfl⟩) k (by simp) a
  show i_ (putK s k v) m=_;rw[AT v b,ku (by simpa using n)];simp
theorem nA:∀{l:DE}{L:Lc}{S a:aL}{v:List P},rg l L S=some (v,a)->v.length=l.length
 | [],L,S,a,v,h=>by cases h;rfl
 |(x,f)::r,L,S,a,v,h=>by obtain⟨y,s,k,q⟩:=ah (show bC (f L S) _=_ from h);obtain⟨b,n,e,q⟩:=ah q;cases q;rw[aS,aS,nA e]
theorem z3{l:DE}{s:List V}(h:s.length=l.length):(l.map (·.1)).zipWith (λk x=>(V.str k,x)) s=((kv l).zip s).map (λv=>(kV v.1,v.2)):=by
 unfold kv;induction l generalizing s with
 |nil=>cases s<;>rfl
 |cons q l i=>
  cases s with
  |nil=>rfl
  |cons x s=>simp only[aU,List.zipWith_cons_cons,qI];rw[i (by simpa using h)];rfl
theorem q9:∀{s:List q}{a:List r},s.length=a.length->(s.zip a).map (·.1)=s
 | [],[],_=>rfl
 |x::s,y::a,h=>by rw[qI,aU,q9 (by simpa using h)]
theorem xI:∀{a:List q}{s:List r},a.length=s.length->(a.zip s).map (·.2)=s
 | [],[],_=>rfl
 |x::a,y::s,h=>by rw[qI,aU,xI (by simpa using h)]
theorem Jq(h:KD X E u values v)(f:u.all (·.isSome)=true)(D:u.length=values.length)(C:u≠[])(i:u.length≤15):PE X (.Dict u values E) (tV X.K (nC v)):=
 (Ef h f D C i).imp' λJ H Q G=>by
  obtain⟨F,m,L,S,d,R,r,N,q,k⟩:=G;obtain⟨V,T,j,q⟩:=ah q;split at q
  .rename_i y;cases q;intro p a;have g:Grow F H F (upd H p (.dK [])):=bQ a;refine tF (r.grow g) (N.mono (g.stp (m:=m))) j λt s e n w M A=>?_
   have l:t.length=v.length:=by rw[<- A.length,nA j]
   have x:(kv v).length=t.length:=by unfold kv;rw[dL,l]
   have c:n p=some (.dK []):=w.oth p _ aX (r.fresh_m a);refine⟨c,(kv v).zip t,z3 l,by rw[List.length_zip,x,l];simpa using y.2,?_⟩;rw[ku (s:=[]) (by rw[cT,q9 x];exact y.1),cT];have o:¬s p:=λz=>by
    rcases w.nf p z with z|z|z
    .exact r.fresh_F a z
    .rw [aX]at z;cases z
    .exact r.fresh_m a z
   have K:p ∉ e:=λz=>by
    rcases w.nm p z with z|z
    .exact r.fresh_m a z
    .rw [aX]at z;cases z
   have P:∀B,n p≠some (.tup B):=λB z=>by rw[c]at z;cases z
   have I:Kp s e n s e (upd n p (.dK ((kv v).zip t))):=Kp.bump o P;have st:Stp F m H s e (upd n p (.dK ((kv v).zip t))):=((g.stp (m:=m)).trans w).bump a;refine k (.ref p) (λb=>s b\/b=p) e _ (st.addF a) ((M.bump o K P).addF K (by rw[aX];exact λz=>nomatch z)) ⟨p,_,rfl,.inr rfl,aX,q9 x,?_⟩;rw[xI x];exact cI.kp (m:=e) Nr (cI.kp I A)
  .cases q
end
mutual
noncomputable def pd:P->PyData
 | .non=>.none
 | .bl b=>.bool b
 | .int i=>.int i
 | .str x=>.str x
 | .tup xs=>.tuple (u7 xs)
 | .lst xs=>.list (u7 xs)
 | .ro xs=>.list (u7 xs)
 | .dct _ _=>.none
noncomputable def u7:List P->List PyData
 | []=>[]
 |x::r=>pd x::u7 r
end
noncomputable def hG:Nat->P->Bool
 |_,.non=>true
 |_,.bl _=>true
 |_,.int _=>true
 |_,.str x=>pZ x
 |n+1,.tup s=>s.all (hG n)
 |n+1,.lst s=>s.all (hG n)
 |n+1,.ro s=>s.all (hG n)
 |_,_=>false
variable{n:Nat}
theorem mV:∀{s:List P},(∀d ∈ s,(pd d).canLay0=true/\(pd d).depth≤n)->p9 (u7 s)=true/\p0 (u7 s)≤n
 | [],_=>⟨rfl,dn _⟩
 |d::r,h=>by obtain⟨⟨p,a⟩,q⟩:=List.forall_mem_cons.mp h;obtain⟨x,e⟩:=mV q;exact⟨by simp only[u7,p9,p,x,Bool.and_self],by simp only[u7,p0];lia⟩
theorem il:∀(n:Nat)(p:P),hG n p=true->(pd p).canLay0=true/\(pd p).depth≤n
 |_,.non,_=>⟨rfl,dn _⟩
 |_,.bl _,_=>⟨rfl,dn _⟩
 |_,.int _,_=>⟨rfl,dn _⟩
 |n,.str x,h=>⟨by cases n<;>exact h,dn _⟩
 |n,.dct _ _,h=>by cases n<;>cases h
 |0,.tup _,h=>by cases h
 |0,.lst _,h=>by cases h
 |0,.ro _,h=>by cases h
 |n+1,.tup s,h=>by obtain⟨a,b⟩:=mV λd e=>il n d (b9.mp h d e);exact⟨a,by simp only[pd,md];lia⟩
 |n+1,.lst s,h=>by obtain⟨a,b⟩:=mV λd e=>il n d (b9.mp h d e);exact⟨a,by simp only[pd,md];lia⟩
 |n+1,.ro s,h=>by obtain⟨a,b⟩:=mV λd e=>il n d (b9.mp h d e);exact⟨a,by simp only[pd,md];lia⟩
theorem ik(h:hG 20 p=true):SeqAt.shaped (pd p)=true:=by obtain⟨x,a⟩:=il 20 p h;unfold SeqAt.shaped;rw[x,Bool.true_and];exact fE (by lia)
section
variable{X:Cx}{B:PN}{J:L2.St}{H:Hp}{s:Shared}{F:Aa}
theorem gA(o:∀{p:P}{v:V}{u:Value},RP X.K F H p v->RelV v u->hG n p=true->∃k,Reads s.heap u (pd p) k) :
  ∀{f:List P}{a:List V}{b:LV},cI X.K F H f a->bi a b->(∀d ∈ f,hG n d=true)->∃k,ReadsAll s.heap b (u7 f) k
 | [],a,b,r,v,_=>by cases (show a=[] from r);cases v;exact⟨_,.nil⟩
 |d::f,a,b,r,v,h=>by
  obtain⟨x,i,rfl,p,r⟩:=r;cases v with
  |cons w t=>obtain⟨k,q⟩:=o p w (h d (.head _));obtain⟨g,m⟩:=gA o r t λe c=>h e (.tail _ c);exact⟨_,.cons q m⟩
theorem nO(I:Inv X B J H s):∀(n:Nat){p:P}{v:V}{u:Value},RP X.K F H p v->RelV v u->hG n p=true->∃w,Reads s.heap u (pd p) w:=by
 intro n;induction n with
 |zero=>
  intro p v u r k h;cases p with
  |non=>cases (show v=.non from r);cases k;exact⟨_,.none⟩
  |bl b=>cases (show v=.bl b from r);cases k;exact⟨_,.bool b⟩
  |int i=>cases (show v=.int i from r);obtain⟨t,rfl⟩:=k;exact⟨_,.int i t⟩
  |str x=>cases (show v=.str x from r);obtain⟨t,rfl⟩:=k;exact⟨_,.str x t⟩
  |_=>simp[hG]at h
 |succ n y=>
  intro p v u r k h;cases p with
  |non=>cases (show v=.non from r);cases k;exact⟨_,.none⟩
  |bl b=>cases (show v=.bl b from r);cases k;exact⟨_,.bool b⟩
  |int i=>cases (show v=.int i from r);obtain⟨t,rfl⟩:=k;exact⟨_,.int i t⟩
  |str x=>cases (show v=.str x from r);obtain⟨t,rfl⟩:=k;exact⟨_,.str x t⟩
  |dct A C=>simp[hG]at h
  |tup z=>obtain⟨a,K,rfl,l,j⟩:=r;cases k;obtain⟨g,f,⟨o,e,c,m,d⟩,S⟩:=I.tuple l.sq;obtain⟨w,q⟩:=gA y j f (by simpa[hG] using h);rw[pd];exact⟨w,wk e c d (by simpa using q)⟩
  |lst z=>obtain⟨a,K,rfl,l,j⟩:=r;cases k;obtain⟨g,f,⟨o,m,e,c,_,d⟩,S⟩:=I.list l.sq;obtain⟨w,q⟩:=gA y j f (by simpa[hG] using h);rw[pd];exact⟨_,qy e c d (by simpa using q)⟩
  |ro z=>obtain⟨a,K,rfl,l,j⟩:=r;cases k;obtain⟨g,f,⟨o,m,e,c,_,d⟩,S⟩:=I.list l.sq;obtain⟨w,q⟩:=gA y j f (by simpa[hG] using h);rw[pd];exact⟨_,qy e c d (by simpa using q)⟩
end
noncomputable def jB(f:D->Option P):List D->Option (List P)
 | []=>some []
 |d::r=>(f d).bind λv=>(jB f r).map λs=>v::s
def da(S:aL):Nat->D->Option P
 |_,.p v=>some v
 |0,.ref _=>none
 |n+1,.ref i=>match S[i]? with
  |some (.lst d)=>(jB (da S n) d).map .lst
  |some (.tpl d)=>(jB (da S n) d).map .tup
  |some (.fz v)=>some v
  |_=>none
@[simp] theorem rH(S:aL)(n:Nat)(v:P):da S n (.p v)=some v:=by cases n<;>rfl
theorem x5(S:aL)(n:Nat):∀s:List P,jB (da S n) (s.map .p)=some s
 | []=>rfl
 |v::r=>by simp[jB,x5 S n r]
section
variable{X:Cx}{B:PN}{J:L2.St}{H:Hp}{s:Shared}{F:Aa}{m:List Addr}{S:aL}
theorem jY(o:∀{d:D}{v:V}{u:Value}{p:P},RD X.K F H m d v->RelV v u->da S n d=some p->hG Q p=true->∃b,Reads s.heap u (pd p) b) :
  ∀{k:List D}{f:List V}{c:LV}{ps:List P},dQ X.K F H m k f->bi f c->jB (da S n) k=some ps->(∀d ∈ ps,hG Q d=true)->∃b,ReadsAll s.heap c (u7 ps) b
 | [],f,c,ps,r,v,q,_=>by cases (show f=[] from r);cases v;cases q;exact⟨_,.nil⟩
 |d::k,f,c,ps,r,v,q,h=>by
  obtain⟨x,B,rfl,p,r⟩:=r;obtain⟨y,i,q⟩:∃a,da S n d=some a/\(jB (da S n) k).map (λK=>a::K)=some ps:=by
   cases e:da S n d with
   |none=>simp[jB,e]at q
   |some a=>exact⟨a,rfl,by simpa[jB,e] using q⟩
  obtain⟨C,j,rfl⟩:∃a,jB (da S n) k=some a/\ps=y::a:=by
   cases e:jB (da S n) k with
   |none=>rw[e]at q;cases q
   |some a=>rw[e]at q;cases q;exact⟨a,rfl,rfl⟩
  cases v with
  |cons z l=>obtain⟨b,g⟩:=o p z i (h y (.head _));obtain⟨A,t⟩:=jY o r l j λe w=>h e (.tail _ w);exact⟨_,.cons g t⟩
theorem dD(I:Inv X B J H s)(E:Rel X.K F H m S):∀(n k:Nat){d:D}{v:V}{u:Value}{p:P},RD X.K F H m d v->RelV v u->da S n d=some p->hG k p=true->∃t,Reads s.heap u (pd p) t:=by
 intro n;induction n with
 |zero=>
  intro k d v u p r x q h;cases d with
  |p w=>rw[rH]at q;cases q;exact nO I k r x h
  |ref i=>cases q
 |succ n C=>
  intro k d v u p r x q h;cases d with
  |p w=>rw[rH]at q;cases q;exact nO I k r x h
  |ref i=>
   obtain⟨a,rfl,K⟩:=r;have L:i < S.length:=by rw[<- E.len];exact(bt.mp K).1
   obtain⟨o,A⟩:∃o,S[i]? = some o:=⟨S[i],by simp[L]⟩;have y:=E.obj i a o K A;simp only[da,A]at q;cases o with
   |fz w=>cases q;exact nO I k y x h
   |dct R b=>cases q
   |ins _ _ _=>cases q
   |exc _ _=>cases q
   |dtt _ _=>cases q
   |lst b=>
    dsimp only at q;cases e:jB (da S n) b with
    |none=>rw[e]at q;cases q
    |some Q=>
     rw[e]at q;cases q;cases k with
     |zero=>simp[hG]at h
     |succ k=>obtain⟨G,j,z⟩:=y;cases x;obtain⟨l,f,⟨o,N,g,c,_,d⟩,M⟩:=I.list (iA.of j);obtain⟨t,q⟩:=jY (Q:=k) (λr x q h=>C k r x q h) z f e (by simpa[hG] using h);rw[pd];exact⟨_,qy g c d (by simpa using q)⟩
   |tpl b=>
    dsimp only at q;cases e:jB (da S n) b with
    |none=>rw[e]at q;cases q
    |some Q=>
     rw[e]at q;cases q;cases k with
     |zero=>simp[hG]at h
     |succ k=>obtain⟨G,j,z⟩:=y;cases x;obtain⟨l,f,⟨o,g,c,N,d⟩,M⟩:=I.tuple (a:=a) (xs:=G) (.inl (.inl j));obtain⟨t,q⟩:=jY (Q:=k) (λr x q h=>C k r x q h) z f e (by simpa[hG] using h);rw[pd];exact⟨_,wk g c d (by simpa using q)⟩
theorem eN(l:Rel X.K F H m S)(r:RD X.K F H m u v)(q:da S n u=some p)(k:∀f,p≠.lst f/\p≠.tup f):RP X.K F H p v:=by
 cases u with
 |p w=>rw[rH]at q;cases q;exact r
 |ref i=>
  cases n with
  |zero=>cases q
  |succ n=>
   obtain⟨a,rfl,h⟩:=r;have b:i < S.length:=by rw[<- l.len];exact(bt.mp h).1
   obtain⟨o,x⟩:∃o,S[i]? = some o:=⟨S[i],by simp[b]⟩;have c:=l.obj i a o h x;simp only[da,x]at q;cases o with
   |fz w=>cases q;exact c
   |dct t d=>cases q
   |ins _ _ _=>cases q
   |exc _ _=>cases q
   |dtt _ _=>cases q
   |lst d=>
    dsimp only at q;cases e:jB (da S n) d with
    |none=>rw[e]at q;cases q
    |some s=>rw[e]at q;cases q;exact absurd rfl (k s).1
   |tpl d=>
    dsimp only at q;cases e:jB (da S n) d with
    |none=>rw[e]at q;cases q
    |some s=>rw[e]at q;cases q;exact absurd rfl (k s).2
end
inductive rEI(K:FG)(g:D->D->aL->Option P)(x:V)(y:V)(H:Hp)(Q:VK):Prop
 |mk (F:Aa) (m:List Addr) (S:aL) (d:D) (e:D) (v:P) (h0_:Rel K F H m S) (h1_:RD K F H m d x) (h2_:RD K F H m e y) (h3_:g d e S=some v) (h4_:∀u F' H',Grow F H F' H'->RP K F' H' v u->Q u H'):rEI K g x y H Q
noncomputable def rE(K:FG)(g:D->D->aL->Option P):R2:=λx y H Q=>rEI K g x y H Q
@[simp] def cc(g:D->D->aL->Option P)(a b:EE)(L:Lc)(S:aL):tyV:=bC (a L S) λx e=>bC (b L e) λy h=>(g x y h).map λv=>(v,h)
section
variable{X:Cx}{a b:Expr}{C N:EE}{E:Pos}
theorem xQ(h:tV X.K (cc a0 C N) J H Q):Gq (rE X.K a0) (tE X.K C) (tE X.K N) J H Q:=by
 obtain⟨F,m,L,S,d,o,r,l,q,k⟩:=h;obtain⟨x,a,K,q⟩:=ah q;obtain⟨y,s,P,q⟩:=ah q;refine⟨F,m,L,S,x,a,r,l,K,λv t A I b G B=>?_⟩;refine⟨t,A,L,a,y,s,G,l.mono b,P,λu p n M c f D=>?_⟩;cases e:a0 x y s with
 |none=>rw[e]at q;cases q
 |some z=>rw[e]at q;cases q;exact⟨p,n,o,x,y,_,f,RD.mono c B,D,e,λw i j g E=>k w i n j (b.trans (c.trans g.stp)) (f.grow g) E⟩
theorem Js(o:iT X (compareOp v) (rE X.K r))(x:PE X a (tE X.K C))(e:PE X b (tE X.K N))(m:behindInMarks v b=false):PE X (.Compare a [v] [b] E) (tV X.K (cc r C N)):=
 (xY o x e m).imp' λ_ _ _ h=>xQ h
theorem Je(o:iT X (compareOp op) (rE X.K u))(c:PE X a (tE X.K C))(t:PE X b (tE X.K N))(w:behindInMarks op b=false):PT X (.Compare a [op] [b] E) (tQ X.K (bV (cc u C N))):=
 (xW o c t w).imp' λJ H Q h=>by
  refine xQ ?_;obtain⟨F,m,L,S,d,j,r,l,q,k⟩:=h;obtain⟨x,y,f,q⟩:=ah q;cases x with
  |bl b=>cases q;exact⟨F,m,L,S,_,_,r,l,f,λv e g n s i p=>⟨_,p,k e g n s i⟩⟩
  |_=>cases q
end
def B4(x y:P):Option Bool:=match zm x y with
 |some (.bl b)=>some b
 |_=>if (hG 20 x && hG 20 y)=true then some (fh (pd x) (pd y)) else none
def BU(d e:D)(S:aL):Option P:=(da S 9 d).bind λx=>(da S 9 e).bind λy=>(B4 x y).map .bl
def Ha(x y:P):Option Bool:=match IK x y with
 |some (.bl b)=>some b
 |_=>if (hG 20 x && hG 20 y)=true then some (!PyData.eqv (pd x) (pd y)) else none
def IJ(d e:D)(S:aL):Option P:=(da S 9 d).bind λx=>(da S 9 e).bind λy=>(Ha x y).map .bl
noncomputable def ul(c:D)(S:aL):Option (List dX):=match c with
 | .p (.dct k _)=>some k
 | .ref i=>match S[i]? with
  |some (.dct k _)=>some k
  |some (.fz (.dct k _))=>some k
  |_=>none
 |_=>none
noncomputable def HD(k:dX)(s:List dX):Bool:=s.any λh=>decide (h=k)
def FI(x c:P):Option Bool:=match x,c with
 | .str i,.str j=>some (!(mn j i 0 j.length 1).isEmpty)
 |x,.lst s=>if (s.all (hG 19) && hG 19 x)=true then some (s.any λy=>fh (pd y) (pd x)) else none
 |x,.tup s=>if (s.all (hG 19) && hG 19 x)=true then some (s.any λy=>fh (pd y) (pd x)) else none
 |_,_=>none
def LN(d c:D)(S:aL):Option Bool:=match ul c S with
 |some s=>(da S 9 d).bind λx=>(iI x).map λk=>HD k s
 |none=>(da S 9 d).bind λx=>(da S 9 c).bind λy=>FI x y
def gE(d c:D)(S:aL):Option P:=(LN d c S).map .bl
def ip(d c:D)(S:aL):Option P:=(LN d c S).map λb=>.bl (!b)
noncomputable def yb:D->Bool
 | .p .non=>true
 |_=>false
def HH(d e:D)(_:aL):Option P:=match e with
 | .p .non=>some (.bl (yb d))
 |_=>none
theorem vw(h:zm x r=some b):(∀s,x≠.lst s/\x≠.tup s)/\∀s,r≠.lst s/\r≠.tup s:=by
 refine⟨λs=>⟨λe=>?_,λe=>?_⟩,λs=>⟨λe=>?_,λe=>?_⟩⟩
 .subst e;cases r<;>cases h
 .subst e;cases r<;>cases h
 .subst e;cases x<;>cases h
 .subst e;cases x<;>cases h
section
variable{X:Cx}
theorem KC(o:X.A.units+64 < cLine):iT X (compareOp .Eq) (rE X.K BU):=by
 intro B s J H x y v u Q I j z h;obtain⟨F,m,S,d,e,r,l,g,i,q,k⟩:=h;unfold BU at q;cases t:da S 9 d with
 |none=>rw[t]at q;cases q
 |some a=>
  rw[t]at q;cases p:da S 9 e with
  |none=>rw[p]at q;cases q
  |some b=>
   rw[p]at q;simp only[eK]at q;cases n:B4 a b with
   |none=>rw[n]at q;cases q
   |some c=>
    rw[n]at q;cases q;unfold B4 at n;split at n
    .rename_i G w;cases n;obtain⟨K,P⟩:=vw w;exact KE (by lia) B s J H x y v u Q I j z ⟨F,a,b,.bl c,l.ft,eN l g t K,eN l i p P,w,k⟩
    .split at n
     .rename_i f;rw[aC]at f;cases n;obtain⟨D,A⟩:=dD I l 9 20 g j t f.1;obtain⟨E,C⟩:=dD I l 9 20 i z p f.2;exact eq_dataH A C (ik f.1) (ik f.2) o ⟨.bl _,H,I,rfl,k _ F H .refl rfl⟩
     .cases n
theorem zl(h:IK x r=some b):(∀s,x≠.lst s/\x≠.tup s)/\∀s,r≠.lst s/\r≠.tup s:=by
 refine⟨λs=>⟨λe=>?_,λe=>?_⟩,λs=>⟨λe=>?_,λe=>?_⟩⟩
 .subst e;cases r<;>cases h
 .subst e;cases r<;>cases h
 .subst e;cases x<;>cases h
 .subst e;cases x<;>cases h
theorem Ku(o:X.A.units+64 < cLine):iT X (compareOp .NotEq) (rE X.K IJ):=by
 intro B s J H x y v u Q I j z h;obtain⟨F,m,S,d,e,r,l,g,i,q,k⟩:=h;unfold IJ at q;cases t:da S 9 d with
 |none=>rw[t]at q;cases q
 |some a=>
  rw[t]at q;cases p:da S 9 e with
  |none=>rw[p]at q;cases q
  |some b=>
   rw[p]at q;simp only[eK]at q;cases n:Ha a b with
   |none=>rw[n]at q;cases q
   |some c=>
    rw[n]at q;cases q;unfold Ha at n;split at n
    .rename_i G w;cases n;obtain⟨K,P⟩:=zl w;exact Nf B s J H x y v u Q I j z ⟨F,a,b,.bl c,l.ft,eN l g t K,eN l i p P,w,k⟩
    .split at n
     .rename_i f;rw[aC]at f;cases n;obtain⟨D,A⟩:=dD I l 9 20 g j t f.1;obtain⟨E,C⟩:=dD I l 9 20 i z p f.2;exact ne_dataH A C (ik f.1) (ik f.2) o ⟨.bl _,H,I,rfl,k _ F H .refl rfl⟩
     .cases n
theorem kr(x:P):∀s:List P,(u7 s).any (λy=>fh y (pd x))=s.any λy=>fh (pd y) (pd x)
 | []=>rfl
 |y::r=>by rw[u7,ep,ep,kr x r]
theorem FD(h:r.all (hG 19)=true):p9 (u7 r)=true/\p0 (u7 r)≤20:=by have l:=il 20 (.lst r) h;simp only[pd,PyData.canLay0,md]at l;have x:=l.2;exact⟨l.1,by lia⟩
theorem o5:(ia u v).isSome=HD v (u.map (·.1)):=by
 induction u with
 |nil=>rfl
 |cons p r i=>
  unfold HD at i ⊢;by_cases h:p.1=v
  .rw [g4 h,aU,ep,fE h];rfl
  .rw [fG h,i,aU,ep,cC h];rfl
theorem uk{K:FG}{F:Aa}{H:Hp}{m:List Addr}{S:aL}{c:D}{y:V}{n:List dX}(r:Rel K F H m S)(p:RD K F H m c y)(q:ul c S=some n):∃a k,y=.ref a/\H a=some (.dK k)/\k.map (·.1)=n:=by
 unfold ul at q;split at q
 .cases q;obtain⟨a,k,e,_,x,h,_⟩:=p;exact⟨a,k,e,x,h⟩
 .rename_i i;obtain⟨a,rfl,s⟩:=p;split at q
  .rename_i o;cases q;obtain⟨k,x,h,_⟩:=r.obj i a _ s o;exact⟨a,k,rfl,x,h⟩
  .rename_i o;cases q;obtain⟨b,k,e,_,x,h,_⟩:=r.obj i a _ s o;cases e;exact⟨a,k,rfl,x,h⟩
  .cases q
 .cases q
theorem Kz(V:X.A.units+64 < cLine):iT X (compareOp .In) (rE X.K gE):=by
  intro B s J H x y v u Q I o K h;obtain⟨F,m,S,d,e,r,l,g,i,q,k⟩:=h;unfold gE LN at q;cases w:ul e S with
  |some W=>
    rw[w]at q;dsimp only at q;cases t:da S 9 d with
    |none=>rw[t]at q;cases q
    |some a=>
      rw[t]at q;simp only[eK]at q;cases f:iI a with
      |none=>rw[f]at q;cases q
      |some L=>rw[f]at q;cases q;obtain⟨b,M,rfl,G,n⟩:=uk l i w;have N:RP X.K F H a x:=eN l g t λD=>⟨λz=>(by subst z;cases f),λz=>(by subst z;cases f)⟩;cases K;cases i' f N;exact NJ (by lia) I (kQ.k G) o λZ E=>⟨.bl _,H,E,rfl,by rw[o5,n];exact k _ F H .refl rfl⟩
  |none=>
    rw[w]at q;dsimp only at q;cases t:da S 9 d with
    |none=>rw[t]at q;cases q
    |some a=>
      rw[t]at q;cases f:da S 9 e with
      |none=>rw[f]at q;cases q
      |some b=>
        rw[f]at q;simp only[eK]at q;cases n:FI a b with
        |none=>rw[n]at q;cases q
        |some c=>
          rw[n]at q;cases q;unfold FI at n;split at n
          · cases n
            cases (show x=.str _ from eN l g t λD=>⟨λz=>(by cases z),λz=>(by cases z)⟩);cases (show y=.str _ from eN l i f λD=>⟨λz=>(by cases z),λz=>(by cases z)⟩);exact yZ B s J H _ _ v u Q I o K ⟨_,_,rfl,rfl,k _ F H .refl rfl⟩
          all_goals first
            |(cases n;done)
            | (split at n
               · rename_i p
                 rw[aC]at p;cases n;obtain⟨R,j⟩:=dD I l 9 20 i K f (by simpa[hG] using p.1);obtain⟨T,C⟩:=dD I l 9 19 g o t p.2;have P:=FD p.1;have A:=il 19 _ p.2;rw[pd]at j;first
                   |exact SeqAt.in_list_reads j C P.1 A.1 (by lia) ⟨.bl _,H,I,rfl,by rw[kr];exact k _ F H .refl rfl⟩
                   |exact SeqAt.in_tuple_reads j C P.1 A.1 (by lia) ⟨.bl _,H,I,rfl,by rw[kr];exact k _ F H .refl rfl⟩
               · cases n)
theorem Bc(V:X.A.units+64 < cLine):iT X (compareOp .NotIn) (rE X.K ip):=by
  intro B s J H x y v u Q I o K h;obtain⟨F,m,S,d,e,r,l,g,i,q,k⟩:=h;unfold ip LN at q;cases w:ul e S with
  |some W=>
    rw[w]at q;dsimp only at q;cases t:da S 9 d with
    |none=>rw[t]at q;cases q
    |some a=>
      rw[t]at q;simp only[eK]at q;cases f:iI a with
      |none=>rw[f]at q;cases q
      |some L=>rw[f]at q;cases q;obtain⟨b,M,rfl,G,n⟩:=uk l i w;have N:RP X.K F H a x:=eN l g t λD=>⟨λz=>(by subst z;cases f),λz=>(by subst z;cases f)⟩;cases K;cases i' f N;exact ET (by lia) I (kQ.k G) o λZ E=>⟨.bl _,H,E,rfl,by rw[o5,n];exact k _ F H .refl rfl⟩
  |none=>
    rw[w]at q;dsimp only at q;cases t:da S 9 d with
    |none=>rw[t]at q;cases q
    |some a=>
      rw[t]at q;cases f:da S 9 e with
      |none=>rw[f]at q;cases q
      |some b=>
        rw[f]at q;simp only[eK]at q;cases n:FI a b with
        |none=>rw[n]at q;cases q
        |some c=>
          rw[n]at q;cases q;unfold FI at n;split at n
          · cases n
            cases (show x=.str _ from eN l g t λD=>⟨λz=>(by cases z),λz=>(by cases z)⟩);cases (show y=.str _ from eN l i f λD=>⟨λz=>(by cases z),λz=>(by cases z)⟩);exact rT B s J H _ _ v u Q I o K ⟨_,_,rfl,rfl,k _ F H .refl rfl⟩
          all_goals first
            |(cases n;done)
            | (split at n
               · rename_i p
                 rw[aC]at p;cases n;obtain⟨R,j⟩:=dD I l 9 20 i K f (by simpa[hG] using p.1);obtain⟨T,C⟩:=dD I l 9 19 g o t p.2;have P:=FD p.1;have A:=il 19 _ p.2;rw[pd]at j;first
                   |exact SeqAt.notIn_list_reads j C P.1 A.1 (by lia) ⟨.bl _,H,I,rfl,by rw[kr];exact k _ F H .refl rfl⟩
                   |exact SeqAt.notIn_tuple_reads j C P.1 A.1 (by lia) ⟨.bl _,H,I,rfl,by rw[kr];exact k _ F H .refl rfl⟩
               · cases n)
theorem Ky:iT X (compareOp .Is) (rE X.K HH):=by
 intro B s J H x y v u Q I c t h;obtain⟨F,m,S,d,e,r,l,n,f,q,k⟩:=h;unfold HH at q;split at q
 .cases q;cases (show y=.non from f);refine G4 B s J H x _ v u Q I c t ⟨rfl,?_⟩;have:decide (x=.non)=yb d:=by
   cases d with
   |ref i=>obtain⟨a,rfl,_⟩:=n;rfl
   |p w=>
    cases w with
    |non=>cases (show x=.non from n);rfl
    |bl b=>cases (show x=.bl b from n);rfl
    |int b=>cases (show x=.int b from n);rfl
    |str b=>cases (show x=.str b from n);rfl
    |_=>(obtain⟨a,g,rfl,_⟩:=n;rfl)
  rw[this];exact k _ F H .refl rfl
 .cases q
end
noncomputable def n5:List jD->List P->Lc->Option Lc
 | [],[],L=>some L
 |g::s,v::x,L=>match g v L with
  |some h=>n5 s x h
  |none=>none
 |_,_,_=>none
def yc(g:List jD):jD:=λv L=>match v with
 | .tup s=>n5 g s L
 |_=>none
theorem t_:∀{s:List jD}{x:List P}{L a:Lc},n5 s x L=some a->x.length=s.length
 | [],[],_,_,_=>rfl
 | [],_::_,_,_,h=>by cases h
 |_::_,[],_,_,h=>by cases h
 |g::s,v::x,L,a,h=>by
  unfold n5 at h;split at h
  .rw [aS,aS,t_ h]
  .cases h
inductive gTsI(K:FG)(gs:List jD)(xs:List V)(J:L2.St)(H:Hp)(Q:L2.St->Hp->Prop):Prop
 |mk (F:Aa) (m:List Addr) (L:Lc) (vs:List P) (L':Lc) (h0_:RL K F H m J L) (h1_:cI K F H vs xs) (h2_:n5 gs vs L=some L') (h3_:∀J',RL K F H m J' L'->Q J' H):gTsI K gs xs J H Q
noncomputable def P2(K:FG)(g:List jD):Ix:=λx J H Q=>gTsI K g x J H Q
inductive GsOk(X:Cx):Ab->List jD->Prop where
 |nil:GsOk X [] []
 |cons {x:Str}{p:Pos}{es:Ab}{g:jD}{gs:List jD}:PG X (.Name x p) (gT X.K g)->GsOk X es gs->GsOk X (.Name x p::es) (g::gs)
section
variable{X:Cx}{E:Pos}
theorem oY:assignEach (.Name x p::es) v=(false,assign (.Name x p) v)::assignEach es v:=rfl
theorem GsOk.len(h:GsOk X es r)(e:Env):(assignEach es e).length=r.length/\(assignEach es e).findIdx? (·.1)=none:=by
 induction h with
 |nil=>exact⟨rfl,rfl⟩
 |cons _ _ i=>rw[oY];refine⟨by rw[aS,aS,i.1],?_⟩;simp only[List.findIdx?_cons,i.2];rfl
theorem GsOk.pgs(h:GsOk X es gs):Ls X es (P2 X.K gs):=by
 induction h with
 |nil=>
  intro B s J H b u Q I e ⟨F,m,L,a,n,l,r,q,k⟩;cases a with
  |nil=>cases q;cases (show b=[] from r);exact Eb B s J H [] u Q I e ⟨rfl,k J l⟩
  |cons _ _=>cases q
 |cons g _ i=>
  intro B s J H b u Q I e ⟨F,m,L,a,n,l,r,q,k⟩;cases a with
  |nil=>cases q
  |cons v a=>
   unfold n5 at q;split at q
   .rename_i f c;obtain⟨x,d,rfl,p,r⟩:=r;refine A0 g i rfl B s J H _ u Q I e ⟨x,d,rfl,F,m,L,v,f,l,p,c,λw t=>?_⟩;exact⟨F,m,f,a,n,t,r,q,k⟩
   .cases q
theorem HF(c:X.c=true)(h:GsOk X es r):PG X (.Tuple es n E) (gT X.K (yc r)):=
 PG.imp' (GO c h.pgs (h.len _).1 (h.len _).2) λv J H Q z=>by
  obtain⟨F,m,L,d,x,l,p,q,k⟩:=z;cases d with
  |tup s=>obtain⟨a,b,rfl,t,e⟩:=p;have f:=t_ (show n5 r s L=some x from q);exact⟨a,b,rfl,t.sq,by rw[<- e.length];exact f,F,m,L,s,x,l,e,q,k⟩
  |_=>cases q
def N4(K:FG)(a:Addr):It:=
 ⟨λi H=>∃s x,iA K H a s/\s[i]? = some x,λi H x h=>∃p y,x=.ref p/\H p=none/\h=upd H p (.tup [.int i,y])/\∀s,iA K H a s->s[i]? = some y,λi H=>∃s,iA K H a s/\s.length≤i⟩
noncomputable def B5(k:Int):List P->List P
 | []=>[]
 |x::r=>.tup [.int k,x]::B5 (k+1) r
@[simp] def Q9(a:EV)(L:Lc)(S:aL):DF:=bC (a L S) λv h=>match v with
 | .lst x=>some (B5 0 x,h)
 | .ro x=>some (B5 0 x,h)
 |_=>none
end
open PySem.AutoSeq1 (wpAny_loadPart')
theorem Ce(n:Nat):(iy n=true)=(n≤1000000):=by unfold iy;simp
variable{q:Type}{s:Shared}
theorem LO(h:c=false)(k:wpAny M A b Q r s):wpAny M A (if c=true then a else b) Q r s:=by rw[h,ar bA];exact k
theorem PZ(h:c=true)(k:wpAny M A a Q r s):wpAny M A (if c=true then a else b) Q r s:=by rw[h,ai rfl];exact k
theorem ub(a:Array Value)(n:Nat):∀b:Array Value,((List.replicate n a).foldl (·++·) b).size=b.size+n * a.size:=by
 induction n with
 |zero=>intro b;simp
 |succ n i=>intro b;rw[cH,gj,i,wv,qR];lia
theorem DI(l:Addr)(i:Array Value)(n:Nat)(e:Option Addr)(k:Array (OV))(x:Int)(u:Tok)(c:-1000000 < x/\x < 1000000)(m:(i.isEmpty ||x == 1)=true) :
  Meets (Builtin.«tuple.__mul__» ⟨[.ref l,.int x u],[]⟩) (λ_ R s=>s.heap.get? l=some { cls:=.type "tuple",dict:=e,data:=.seq i n,slots:=k }/\R (.ok (.ret (Value.ref l))) s):=
 .of_wp λp w A R s h=>by
  obtain⟨r,g,d,t,os⟩:=s;obtain⟨a,h⟩:=h;have f:=vI;have b:=vJ
  wp_walk using kS a
  refine LO (by rw[cC (by lia),cC (by lia)];rfl) ?_
  wp_walk using kS a
  exact⟨_,rfl,h⟩
theorem DH(l:Addr)(i:Array Value)(n:Nat)(c:Option Addr)(v:Array (OV))(x:Int)(u:Tok)(S:-1000000 < x/\x < 1000000)(f:¬(i.isEmpty ||x == 1)=true)(z:i.size * x.toNat≤1000000) :
  Meets (Builtin.«tuple.__mul__» ⟨[.ref l,.int x u],[]⟩) (fun _ R s=>s.heap.get? l=some { cls:=.type "tuple",dict:=c,data:=.seq i n,slots:=v } /\
   R (.ok (.ret (Value.ref s.heap.objs.size))) { s with heap:=s.heap.push { cls:=Value.type "tuple",data:=Data.seq ((List.replicate x.toNat i).foldl (·++·) #[]) } }):=
 .of_wp λp w A R s h=>by
  obtain⟨F,g,d,P,os⟩:=s;obtain⟨a,h⟩:=h;have o:=vI;have H:=vJ
  wp_walk using kS a
  refine LO (by rw[cC (by lia),cC (by lia)];rfl) ?_
  wp_walk using kS a
  have k:i.isEmpty=false:=by
   cases e:i.isEmpty with
   |false=>rfl
   |true=>rw[e]at f;simp at f
  by_cases b:x≤0
  .refine PZ (by rw[fE b];rfl) ?_;have m:x.toNat=0:=by lia
   rw[m]at h
   wp_walk using kS a
   exact⟨_,rfl,h⟩
  .refine LO (by rw[cC b,k];rfl) ?_;have q:(i.size:Int) * x≤1000000:=by
    have:((i.size * x.toNat:Nat):Int)≤1000000:=by lia
    rw[vK,vL (by lia)]at this;exact this
   have r:¬(i.size:Int) * x > (2 ^ 63-1) / 8:=by lia
   dsimp only;rw[ar r];have K:(1000000:Int)≤(sizeLine:Int):=by decide
   refine LO (show CO _=false from cC (by lia)) ?_;have t:¬(my (λj y=>j++y) #[] (List.replicate x.toNat i)).size > sizeLine:=by
    have e:=ub i x.toNat #[];rw[e];have:x.toNat * i.size≤1000000:=by rw[mL];exact z
    have:(1000000:Nat)≤sizeLine:=by decide
    simp only[bB,dh];lia
   wp_walk using kS a
   exact⟨_,rfl,h⟩
theorem DZ(a:Int)(t:Tok)(l:Addr)(i:Array Value)(n:Nat)(x:Option Addr)(e:Array (OV)) :
  Meets (Builtin.«int.__rmul__» ⟨[.int a t,.ref l],[]⟩) (λ_ R s=>s.heap.get? l=some { cls:=.type "tuple",dict:=x,data:=.seq i n,slots:=e }/\R (.ok (.ret Value.notImplemented)) s):=
 .of_wp λp w A R s h=>by
  obtain⟨f,g,d,b,os⟩:=s;obtain⟨k,h⟩:=h
  wp_walk
  exact⟨_,rfl,h⟩
theorem y4:fillsNumberSlot (.type "tuple") "mul"=pure false:=
 PySem.fillsNumberSlot_seq (id:="tuple.__mul__") (r:=some (.builtin "tuple.__rmul__")) ml.lookup (by decide +kernel) v_.lookup (by decide +kernel)
theorem GB:seqRepeat? (.type "tuple")=pure (some (.builtin "tuple.__mul__")):=by unfold seqRepeat?;rw[xA (T:="tuple") (name:="__mul__") (id:="tuple.__mul__") ml.lookup (by decide +kernel)];first|rfl|(rw[xA (T:="tuple") (name:="__rmul__") (id:="tuple.__rmul__") v_.lookup (by decide +kernel)];rfl)
section
variable{X:Cx}
theorem vo(i:LV)(k:Nat):(List.replicate k i.toArray).foldl (·++·) #[]=(List.replicate k i).flatten.toArray:=by
 have:∀(m:Nat)(b:LV),(List.replicate m i.toArray).foldl (·++·) b.toArray=(b++(List.replicate m i).flatten).toArray:=by
  intro m;induction m with
  |zero=>intro b;simp
  |succ m x=>intro b;rw[cH,gj,List.append_toArray,x,cH,eM,di]
 have h:=this k [];rw[cT]at h;exact h
theorem xL(r:bi u v):∀k:Nat,bi (List.replicate k u).flatten (List.replicate k v).flatten
 |0=>.nil
 |k+1=>by rw[cH,cH,eM,eM];exact r.append (xL r k)
theorem Hk(x:List q)(k:Nat):(List.replicate k x).flatten.length=x.length * k:=by
 induction k with
 |zero=>rfl
 |succ k i=>rw[cH,eM,aN,i,Nat.mul_succ];lia
def jN:P->P->Option P
 | .tup s,.int n=>if (iy (s.length * n.toNat) && decide (n.natAbs < 1000000))=true then some (.tup (List.replicate n.toNat s).flatten) else none
 |x,y=>uj x y
theorem G7:o0 X (binaryOp .Mult) jN:=by
 intro B s J H x y v u Q I M N h;obtain⟨F,z,S,d,W,G,L,q,k⟩:=h;have f:uj z S=some d->wx X (binaryOp .Mult v u) (EP X B J Q) X.xe s:=λq=>Kv B s J H x y v u Q I M N ⟨F,z,S,d,W,G,L,q,k⟩
 cases z with
 |tup j=>
  cases S with
  |int n=>
   simp only[jN]at q;split at q
   .rename_i g;rw[aC,Ce]at g;have h1:=bq g.2;cases q;obtain⟨a,D,rfl,R,C⟩:=G;cases (show y=.int n from L);cases M;obtain⟨t,rfl⟩:=N;have K:=C.length;obtain⟨i,r,⟨o,e,c,m,E⟩,hz⟩:=I.tuple R.sq;have l:=r.length;obtain⟨oc,A,ot,os⟩:=o;dsimp only at c E;subst c E;refine xF (T:="tuple") (U:="int") (by decide) ⟨_,e,rfl⟩ (λZ=>kj Z n t) y4 vQ mj GB vT.lookup
     (jQ mj (kj s n t) vS (vU _ _) (DZ n t a i.toArray m A os) ⟨e,rfl,⟨_,e,rfl⟩,?_⟩)
    by_cases p:(i.toArray.isEmpty ||n == 1)=true
    .refine jQ ml ⟨_,e,rfl⟩ v0 (wa _ _) (DI a i.toArray m A os n t (by lia) p) ⟨e,⟨.ref a,H,I,rfl,k _ F H .refl ?_⟩⟩;have V:(List.replicate n.toNat j).flatten=j:=by
      rw[jp]at p;rcases p with p|p
      .have:i=[]:=by simpa using p
       have:j=[]:=gu (by rw[K,l,this];rfl);subst this;simp
      .have:n=1:=by simpa using p
       subst this;simp
     rw[V];exact⟨a,D,rfl,R,C⟩
    .refine jQ ml ⟨_,e,rfl⟩ v0 (wa _ _) (DH a i.toArray m A os n t (by lia) p (by rw[bB,<- l,<- K];exact g.1)) ⟨e,?_⟩;rw[vo];have w:H s.heap.objs.size=none:=I.h.fresh (aw _);have P:(List.replicate n.toNat D).flatten.length≤sizeLine:=by
      rw[Hk,<- K];exact bN g.1 (by decide)
     refine⟨.ref s.heap.objs.size,_,I.laid (t':=s.toks) (o:=.tup (List.replicate n.toNat D).flatten) (λb ob q=>bM _ q) (aw _) ⟨P,_,xL r n.toNat,ou.new _ _⟩,rfl,k _ F _ (bQ w) (.newTup w (C.rep n.toNat))⟩
   .cases q
  |_=>exact f q
 |_=>exact f q
variable{e:Expr}{es:Ab}{fs:gc}{p E:Pos}
@[simp] def LY(r:EE)(a:EV)(L:Lc)(S:aL):sP:=bC (r L S) λd h=>match eH d h with
 |none=>none
 |some _=>bC (a L h) λx e=>match eH d e,x with
  |some (i,s),.lst y=>if iy (s.length+y.length)=true then some (.p .non,e.set i (.lst (s++y.map .p))) else none
  |_,_=>none
end
section
variable{X:Cx}{o e:Expr}{G z:EE}{C:EV}{j l E:Pos}
noncomputable abbrev lr:=Lc->aL->Option (List D×aL)
noncomputable abbrev Jx:=Option (List D×aL)
inductive tDsI(K:FG)(f:lr)(J:L2.St)(H:Hp)(Q:List V->Hp->Prop):Prop
 |mk (F:Aa) (m:List Addr) (L:Lc) (S:aL) (ds:List D) (S':aL) (h0_:Rel K F H m S) (h1_:RL K F H m J L) (h2_:f L S=some (ds,S')) (h3_:∀xs F' m' H',Stp F m H F' m' H'->Rel K F' H' m' S'->dQ K F' H' m' ds xs->Q xs H'):tDsI K f J H Q
noncomputable def s0(K:FG)(f:lr):TA:=λJ H Q=>tDsI K f J H Q
@[simp] def aR(_L:Lc)(S:aL):Jx:=some ([],S)
@[simp] def cg(a:EE)(r:lr)(L:Lc)(S:aL):Jx:=bC (a L S) λx h=>bC (r L h) λs e=>some (x::s,e)
variable{es:Ab}{fs:lr}
theorem K8:PA X [] (s0 X.K aR):=ij.imp' λJ H Q h=>by obtain⟨F,m,L,S,d,x,r,l,q,k⟩:=h;cases q;exact k [] F m H .refl r rfl
theorem HW(u:PE X e (tE X.K z))(g:PA X es (s0 X.K fs))(i:starEach (e::es) X.e=(false,eval e X.e)::starEach es X.e):PA X (e::es) (s0 X.K (cg z fs)):=
 (d4 u g i).imp' λJ H Q j=>by obtain⟨F,m,L,S,d,t,r,l,q,k⟩:=j;obtain⟨x,h,p,q⟩:=ah q;obtain⟨C,E,w,q⟩:=ah q;cases q;refine⟨F,m,L,S,x,h,r,l,p,λv f y D s A K=>?_⟩;refine⟨f,y,L,h,C,t,A,l.mono s,w,λn b o c a B P=>?_⟩;exact k (v::n) b o c (s.trans a) B ⟨v,n,rfl,RD.mono a K,P⟩
noncomputable abbrev GF:=List D->aL->Option (D×aL)
inductive spRI(K:FG)(g:GF)(vs:List V)(H:Hp)(Q:VK):Prop
 |mk (F:Aa) (m:List Addr) (ds:List D) (S:aL) (d:D) (S':aL) (h0_:Rel K F H m S) (h1_:dQ K F H m ds vs) (h2_:g ds S=some (d,S')) (h3_:∀v F' m' H',Stp F m H F' m' H'->Rel K F' H' m' S'->RD K F' H' m' d v->Q v H'):spRI K g vs H Q
noncomputable def oF(K:FG)(g:GF):Sp:=λv H Q _=>spRI K g v H Q
@[simp] def B7(g:GF)(a:lr)(L:Lc)(S:aL):sP:=bC (a L S) λd h=>g d h
theorem Ga(G:FnOk X.p X.w X.K X.g X.b ow u f fd ps (oF X.K a0))(A:Room u X.A)(o:Gl X x)(P:X.g x=some (.ref f))(K:eY X.K (.ref f)=true)(y:Binds X.K fd ps [])
  (j:PA X (e::es) (s0 X.K fs)) (h:(x == ("__debug__":Str))=false) (z:starEach (e::es) X.e=(false,eval e X.e)::starEach es X.e) (a:(backTo E (starEach es X.e)).any (·.1)=false) :
  PE X (.Call (.Name x p) (e::es) [] E) (tE X.K (B7 a0 fs)):=
 (rO G A o P K y .nil o_ j h z a).imp' λJ H Q B=>by obtain⟨F,m,L,S,d,g,r,l,q,u⟩:=B;obtain⟨k,n,i,q⟩:=ah q;refine⟨F,m,L,S,k,n,r,l,i,λT b C t s M p=>?_⟩;show oF X.K a0 (T++[]) t Q E0;rw[dZ];exact⟨b,C,k,n,d,g,M,p,q,λv c D w R N I=>u v c D w (s.trans R) N I⟩
noncomputable def ve(n:Nat):D->Bool
 | .p _=>true
 | .ref i=>decide (i < n)
def Hi(n:Nat):SO->Bool
 | .lst d=>d.all (ve n)
 | .dct _ d=>d.all (ve n)
 | .fz _=>true
 | .ins _ _ d=>d.all (ve n)
 | .exc _ _=>true
 | .tpl d=>d.all (ve n)
 | .dtt _ d=>d.all (ve n)
def trunc(n:Nat)(S:aL):aL:=if (S.take n).all (Hi n)=true then S.take n else S
@[simp] def ib(g:GF)(a:lr)(L:Lc)(S:aL):tyV:=bC (a L S) λs h=>bC (g s h) λd x=>bC (rB 9 d x) λv e=>some (v,trunc h.length e)
end
section
variable{K:FG}{F:Aa}{H:Hp}{m:List Addr}{S:aL}
theorem RD.low(h:RD K F H m r v)(l:ve n r=true):RD K F H (m.take n) r v:=by
 cases r with
 |p w=>exact h
 |ref i=>obtain⟨a,e,x⟩:=h;exact⟨a,e,by rw[jt (bq l)];exact x⟩
theorem dQ.low:∀{s:List D}{a:List V},dQ K F H m s a->s.all (ve n)=true->dQ K F H (m.take n) s a
 | [],_,h,_=>h
 |d::s,_,h,l=>by obtain⟨x,r,e,k,f⟩:=h;rw[wG,aC]at l;exact⟨x,r,e,k.low l.1,dQ.low f l.2⟩
theorem Rel.trunc(r:Rel K F H m S)(z:n≤m.length)(h:(S.take n).all (Hi n)=true):Rel K F H (m.take n) (S.take n) where
 len:=by rw[cG,cG,r.len]
 nd:=r.nd.sublist (wM _ _)
 obj:=λi a o t q=>by
  have u:i < n:=by have:=(bt.mp t).1;rw[cG]at this;lia
  rw[jt u]at t;have lo:=b9.mp h o (dj q);rw[jt u]at q;have p:=r.obj i a o t q;cases o with
  |lst d=>obtain⟨g,s,b⟩:=p;exact⟨g,s,b.low lo⟩
  |dct j d=>obtain⟨k,s,e,b⟩:=p;exact⟨k,s,e,b.low lo⟩
  |fz v=>exact p
  |ins c j d=>obtain⟨C,l,k,y,s,e,b⟩:=p;exact⟨C,l,k,y,s,e,b.low lo⟩
  |exc c x=>exact p
  |tpl d=>obtain⟨g,s,b⟩:=p;exact⟨g,s,b.low lo⟩
  |dtt j d=>obtain⟨k,s,e,b⟩:=p;exact⟨k,s,e,b.low lo⟩
 sep:=λi a o t q w f=>by
  have u:i < n:=by have:=(bt.mp t).1;rw[cG]at this;lia
  rw[jt u]at t q;exact r.sep i a o t q w f
 trk:=λa h=>r.trk a (qJ h)
 ft:=r.ft
theorem Stp.trunc(s:Stp F m H v r u):Stp F m H v (r.take m.length) u:=by
 obtain⟨n,e⟩:=s.pre;have x:r.take m.length=m:=by rw[e];simp
 rw[x];exact⟨⟨[],by simp⟩,s.oth,s.frz,s.frk,s.tup,s.trk,s.nf,λ_ h=>.inl h⟩
end
section
variable{X:Cx}{e:Expr}{es:Ab}{fs:lr}{E:Pos}
theorem Dr(G:FnOk X.p X.w X.K X.g X.b ow u f fd ps (oF X.K a0))(hr:Room u X.A)(Z:Gl X x)(hm:X.g x=some (.ref f))(hk:eY X.K (.ref f)=true)(V:Binds X.K fd ps [])
  (T:PA X (e::es) (s0 X.K fs)) (b:(x == ("__debug__":Str))=false) (W:starEach (e::es) X.e=(false,eval e X.e)::starEach es X.e) (w:(backTo E (starEach es X.e)).any (·.1)=false) :
  PE X (.Call (.Name x p) (e::es) [] E) (tV X.K (ib a0 fs)):=
 (rO G hr Z hm hk V .nil o_ T b W w).imp' λJ H Q hz=>by
  obtain⟨F,m,L,S,d,S',r,l,q,u⟩:=hz;obtain⟨z,h,M,q⟩:=ah q;obtain⟨I,D,N,q⟩:=ah q;obtain⟨v1,a,R,q⟩:=ah q;cases q;refine⟨F,m,L,S,z,h,r,l,M,λxs B g C A K p1=>?_⟩;show oF X.K a0 (xs++[]) C Q E0;rw[dZ];refine⟨B,g,z,h,I,D,K,p1,N,λv F2 i y s2 r2 p2=>?_⟩;obtain⟨j,s3,P,l3,o⟩:=k_ 9 R r2 p2;have st:=s2.trans s3;have s:=K.len;by_cases c:(a.take h.length).all (Hi h.length)=true
  .have t:Ev.trunc h.length a=a.take h.length:=ai c;rw[t]at u;have k:g.length≤i.length:=by
    obtain⟨nn,e⟩:=st.pre;rw[e,aN];lia
   have rt:=P.trunc (n:=h.length) (by rw[<- s];exact k) c;refine u v j (i.take g.length) y (A.trans st.trunc) ?_ o;rw[s];exact rt
  .have t:Ev.trunc h.length a=a:=ar c;rw[t]at u;exact u v j i y (A.trans st) P o
end
section
variable{X:Cx}{a b c e o i g:Expr}{C N d L I:EV}{G z:EE}{E t:Pos}
def CD (i:Expr):Prop:=∀(o:Expr) (E:Pos) (e:Env) (v:Value),assign (.Subscript o i E) e v=(do
 let h <- holding [v] (eval o e)
 let x <- holding [v,h] (eval i e)
 standAt E
 holding [v,h,x] (setItem h x v)
 release [v,h,x] [])
@[simp] def MJ(g n:P->P->Option P)(a b c:EV)(L:Lc)(S:aL):tyV:=bC (a L S) λx e=>bC (b L e) λy h=>match g x y with
 |some (.bl true)=>bC (c L h) λz s=>(n y z).map λv=>(v,s)
 |some (.bl false)=>some (.bl false,h)
 |_=>none
def uU:P->Option Bool
 | .non=>some false
 | .bl b=>some b
 | .int i=>some (i != 0)
 | .str x=>if iy x.length=true then some ((x.length:Int) != 0) else none
 | .tup s=>some (!s.isEmpty)
 | .lst s=>some (!s.isEmpty)
 | .ro s=>some (!s.isEmpty)
 | .dct k _=>some (!k.isEmpty)
def rm:D->aL->Option Bool
 | .p v,_=>uU v
 | .ref i,S=>match S[i]? with
  |some (.lst d)=>some (!d.isEmpty)
  |some (.dct k _)=>some (!k.isEmpty)
  |some (.fz v)=>uU v
  |_=>none
@[simp] def bT(f:EE)(L:Lc)(S:aL):IC:=bC (f L S) λd h=>(rm d h).map λb=>(b,h)
theorem gD{x:List q}{y:List r}(h:x.length=y.length):x.isEmpty=y.isEmpty:=by cases x<;>cases y<;>first|rfl|simp at h
theorem xN(p:RP X.K F H w v)(h:uU w=some r):Iw X.K v H r:=by
 cases w with
 |non=>cases (show v=.non from p);cases h;rfl
 |bl b=>cases (show v=.bl b from p);cases h;rfl
 |int b=>cases (show v=.int b from p);cases h;rfl
 |str x=>
  cases (show v=.str x from p);simp only[uU]at h;split at h
  .rename_i c;cases h;exact⟨fA c,rfl⟩
  .cases h
 |tup d=>obtain⟨a,s,rfl,t,e⟩:=p;cases h;exact .inr (.inl ⟨s,t.sq,by rw[gD e.length]⟩)
 |lst d=>obtain⟨a,s,rfl,t,e⟩:=p;cases h;exact .inl ⟨s,t.sq,by rw[gD e.length]⟩
 |ro d=>obtain⟨a,s,rfl,t,e⟩:=p;cases h;exact .inl ⟨s,t.sq,by rw[gD e.length]⟩
 |dct m d=>obtain⟨a,k,rfl,_,f,n,e⟩:=p;cases h;exact .inr (.inr ⟨k,f,by rw[<- n];cases k<;>rfl⟩)
theorem yT(h:PE X e (tE X.K z))(D:∀o,isTrue e X.e o=(do let v <- o;standAt e.pos;holding [v] (truthy v))):PT X e (tQ X.K (bT z)):=
 (AU h D).imp' λJ H Q E=>by
  obtain⟨F,m,L,S,d,N,r,l,q,k⟩:=E;obtain⟨x,P,B,q⟩:=ah q;cases s:rm x P with
  |none=>rw[s]at q;cases q
  |some t=>
   rw[s]at q;cases q;refine⟨F,m,L,S,x,_,r,l,B,λv y G K I b g=>⟨_,?_,k y G K I b⟩⟩;cases x with
   |p w=>exact xN g s
   |ref j=>
    obtain⟨a,rfl,u⟩:=g;simp only[rm]at s;split at s
    .rename_i A n;cases s;obtain⟨M,c,i⟩:=b.obj j a _ u n;exact .inl ⟨M,iA.of c,by rw[gD i.length]⟩
    .rename_i R A n;cases s;obtain⟨f,c,C,i⟩:=b.obj j a _ u n;exact .inr (.inr ⟨f,c,by rw[<- C];cases f<;>rfl⟩)
    .rename_i w n;exact xN (b.obj j a _ u n) s
    .cases s
@[simp] def Gz(g:jD)(f:EV)(L:Lc)(S:aL):Al:=bC (f L S) λv x=>match g v L with
 |some h=>some (.nx,h,x)
 |none=>none
theorem Mf(p:PE X e (tV X.K C))(d:PG X Q (gT X.K u))(w:swapsWithSole [Q] e E.line X.e=pure false)(i:swappedStores [Q] e X.e=pure none)(t:(assignEach [Q] X.e).map (·.2)=[assign Q X.e]) :
  PS X (.Assign [Q] e E) (iG X.K (Gz u C)):=(GL p d w i t).imp' λD J H z=>by
 obtain⟨F,m,L,S,A,K,P,r,l,q,k⟩:=z;obtain⟨v,b,c,q⟩:=ah q;refine⟨F,m,L,S,v,b,r,l,c,λx h a n s o y=>?_⟩;cases g:u v L with
 |none=>rw[g]at q;cases q
 |some L2=>rw[g]at q;cases q;exact⟨h,a,L,v,_,l.mono s,y,g,λf j=>k f h a n s o j⟩
def cM:P->P->Option P
 | .tup [],.tup s=>some (.tup s)
 |x,y=>sE x y
theorem Ic{M:Program}{w:World}{A:Around}{E:VP}{s:Shared}{t b:Addr}{a:LV}{Q:VP}(n:IsTup s.heap t #[])(e:IsTup s.heap b a.toArray)(h:Q (.ref b) s):wpAny (model M w) A (binaryOp .Add (.ref t) (.ref b)) Q E s:=by obtain⟨o,g,k,m,l⟩:=id n;obtain⟨p,x,f,r,c⟩:=id e;cases o;cases p;cases k;cases l;cases f;cases c;exact qX ⟨_,g,rfl⟩ ⟨_,x,rfl⟩ q8 qY qf qg (qh _ _) (tuple_addW0 t b #[] a.toArray m r _ _ _ _ rfl) ⟨g,x,h⟩
theorem G8:o0 X (binaryOp .Add) cM:=by
 intro B s J H x y v u Q I r m h;obtain⟨F,e,n,d,t,c,p,q,k⟩:=h;have o:sE e n=some d->wx X (binaryOp .Add v u) (EP X B J Q) X.xe s:=λq=>KG B s J H x y v u Q I r m ⟨F,e,n,d,t,c,p,q,k⟩
 cases e with
 |tup f=>
  cases n with
  |tup es=>
   cases f with
   |nil=>cases q;obtain⟨a,P,rfl,S,z⟩:=c;obtain⟨b,D,rfl,K,C⟩:=id p;cases (show P=[] from z);cases r;cases m;obtain⟨w,l,g,_⟩:=I.tuple S.sq;obtain⟨i,A,j,_⟩:=I.tuple K.sq;cases l;exact Ic g j ⟨.ref b,H,I,rfl,k _ F H .refl p⟩
   |cons _ _=>exact o q
  |_=>cases f<;>exact o q
 |_=>exact o q
def sM(K:FG)(k:SV)(x:Str)(v:P):Prop:=∃u w,k x=some u/\RelV w u/\∀F H,RP K F H v w
theorem Jp(g:Gl X x)(h:sM X.K X.g x v)(d:(x == ("__debug__":Str))=false):PE X (.Name x E) (tV X.K (vC v)):=by obtain⟨u,w,m,r,p⟩:=h;exact xC (rN g m r d) p
end
section
variable{X:Cx}{a:Expr}{C:EE}{p E:Pos}
noncomputable def Fx:P->String
 | .non=>"NoneType"
 | .bl _=>"bool"
 | .int _=>"int"
 | .str _=>"str"
 | .tup _=>"tuple"
 | .lst _=>"list"
 | .ro _=>"list"
 | .dct _ _=>"dict"
def fy(T:String)(v:P):Bool:=Fx v == T ||(T == "int" && Fx v == "bool")
theorem Cf(S:∀K:FG,∀v:P,bp K (.type (Fx v)) (.type T)=some (fy T v)) :
  dc X (.builtin "isinstance") (λm H Q=>∃F d x,m=[x,.ty T]/\RP X.K F H d x/\Q (.bl (fy T d)) H):=by
 intro B s J H m G Q I r h;obtain⟨F,d,x,rfl,pd,q⟩:=h;obtain⟨u,D,rfl,k,w⟩:=vals2 r;cases (show D=Value.type T from w);have e:=S X.K d;have f:∀l,EP X B J Q (.bool (fy T d)) { s with toks:=l }:=λl=>⟨.bl (fy T d),H,I.tok _,rfl,q⟩
 cases d with
 |non=>cases (show x=.non from pd);exact fD I k (.non) e f
 |bl y=>cases (show x=.bl y from pd);exact fD I k (.bl y) e f
 |int y=>cases (show x=.int y from pd);exact fD I k (.int y) e f
 |str y=>cases (show x=.str y from pd);exact fD I k (.str y) e f
 |tup g=>obtain⟨a,m,rfl,t,j⟩:=pd;cases k;obtain⟨i,_,⟨o,b,c,_⟩,_⟩:=I.tuple t.sq;exact dA zS I.kIn ⟨o,b,c⟩ e (λz=>nomatch z) f
 |lst g=>obtain⟨a,m,rfl,t,j⟩:=pd;cases k;obtain⟨i,_,p,_⟩:=I.list t.sq;obtain⟨o,n,b,c,_⟩:=p;exact dA nj I.kIn ⟨o,b,c⟩ e (λz=>nomatch z) f
 |ro g=>obtain⟨a,m,rfl,t,j⟩:=pd;cases k;obtain⟨i,_,p,_⟩:=I.list t.sq;obtain⟨o,n,b,c,_⟩:=p;exact dA nj I.kIn ⟨o,b,c⟩ e (λz=>nomatch z) f
 |dct E L=>obtain⟨a,C,rfl,_,A,_⟩:=pd;exact fD I k (.dK A) e f
theorem Ez(K:FG)(v:P):bp K (.type (Fx v)) (.type "int")=some (fy "int" v):=by cases v<;>rfl
theorem Bx(K:FG)(v:P):bp K (.type (Fx v)) (.type "bool")=some (fy "bool" v):=by cases v<;>rfl
theorem kit_tuple(K:FG)(v:P):bp K (.type (Fx v)) (.type "tuple")=some (fy "tuple" v):=by cases v<;>rfl
def BG(T:String):D->aL->Option Bool
 | .p v,_=>some (fy T v)
 | .ref i,S=>match S[i]? with
  |some (.lst _)=>some (fy T (.lst []))
  |some (.dct _ _)=>some (fy T (.dct [] []))
  |some (.fz v)=>some (fy T v)
  |_=>none
@[simp] def uR(T:String)(f:EE)(L:Lc)(S:aL):tyV:=bC (f L S) λd h=>(BG T d h).map λb=>(.bl b,h)
theorem zx(t:∀K:FG,∀v:P,bp K (.type (Fx v)) (.type T)=some (fy T v)) :
  dc X (.builtin "isinstance") (λA H Q=>∃F m S d b x,A=[x,.ty T]/\Rel X.K F H m S/\RD X.K F H m d x/\BG T d S=some b/\Q (.bl b) H):=by
 intro B s J H A Z Q I r h;obtain⟨F,m,S,d,b,x,rfl,l,pd,i,q⟩:=h;have plain:∀w:P,RP X.K F H w x->fy T w=b->wx X _ _ _ _:=λw M e=>Cf t B s J H [x,.ty T] Z Q I r ⟨F,w,x,rfl,M,by rw[e];exact q⟩
 cases d with
 |p w=>cases i;exact plain w pd rfl
 |ref j=>
  obtain⟨a,rfl,g⟩:=pd;simp only[BG]at i;obtain⟨u,w',rfl,C,y⟩:=vals2 r;cases (show w'=Value.type T from y);have f:∀D,EP X B J Q (.bool b) { s with toks:=D }:=λD=>⟨.bl b,H,I.tok _,rfl,q⟩;split at i
  .rename_i E k;obtain⟨A,c,W⟩:=l.obj j a _ g k;have e:=t X.K (.lst []);rw[show fy T (.lst [])=b by cases i;rfl]at e;cases C;obtain⟨N,_,V,_⟩:=I.list (iA.of c);obtain⟨o,n,G,L,_⟩:=V;exact dA nj I.kIn ⟨o,G,L⟩ e (λz=>nomatch z) f
  .rename_i ks E k;obtain⟨R,c,ek,W⟩:=l.obj j a _ g k;have e:=t X.K (.dct [] []);rw[show fy T (.dct [] [])=b by cases i;rfl]at e;exact fD I C (.dK c) e f
  .rename_i w k;exact plain w (l.obj j a _ g k) (by cases i;rfl)
  .cases i
theorem FY(y:∀K:FG,∀v:P,bp K (.type (Fx v)) (.type T)=some (fy T v))(B:Gl X "isinstance")(D:X.g "isinstance"=none)(h:Gl X u)(n:X.g u=none)(o:bootBuiltins u=some (.type T))(z:PE X a (tE X.K C))
  (G:u≠"__name__") (A:(u == ("__debug__":Str))=false) (c:starEach [a,.Name u p2] X.e=[(false,eval a X.e),(false,eval (.Name u p2) X.e)]):PE X (.Call (.Name "isinstance" p) [a,.Name u p2] [] E) (tV X.K (uR T C)):=
 (i7 (zx y) B D qA (d4 z (d4 (xZ (v:=.ty T) h n o rfl G A) ij rfl) (by rw[c];rfl)) (by decide) (by decide) (by rw[c];rfl) rfl).imp' λJ H Q I=>by
  obtain⟨F,m,L,S,d,N,r,l,q,k⟩:=I;obtain⟨x,i,j,q⟩:=ah q;cases e:BG T x i with
  |none=>rw[e]at q;cases q
  |some b=>rw[e]at q;cases q;exact⟨F,m,L,S,_,_,r,l,j,λv f t g s w M=>⟨f,t,_,x,b,v,rfl,w,M,e,k _ f t g s w rfl⟩⟩
end
noncomputable def gB(f:Str):LS->List D->Option D
 |k::h,d::s=>if k=f then some d else gB f h s
 |_,_=>none
noncomputable def putK(f:Str):LS->LS
 | []=>[f]
 |k::s=>if k=f then k::s else k::putK f s
noncomputable def oH(f:Str)(y:D):LS->List D->List D
 | [],_=>[y]
 |k::h,d::s=>if k=f then y::s else d::oH f y h s
 |_::_,[]=>[]
def eX(K:FG)(c:Str)(C:Addr):Prop:=bo K mainGlobals c=some (some (.ref C))
variable{K:FG}
theorem eX.inj(h:eX K c r)(x:eX K c v):r=v:=by have:=h.symm.trans x;cases this;rfl
def Lx(K:FG)(A:Str->Str->Bool):Prop:=∀c f,A c f=true->∃C,eX K c C/\Cls K C/\jm K C f
section
variable{K:FG}{F:Aa}{H:Hp}{m:List Addr}
theorem rW:∀{a:List (Str×V)}{s:List D}{d:D},dQ K F H m s (a.map (·.2))->gB f (a.map (·.1)) s=some d->∃v,a.lookup f=some v/\RD K F H m d v
 | [],s,d,_,h=>by cases s<;>cases h
 |(k,x)::r,s,d,q,h=>by
  cases s with
  |nil=>cases h
  |cons w s=>
   obtain⟨y,u,e,t,p⟩:=q;simp only[aU,List.cons.injEq]at e;obtain⟨rfl,rfl⟩:=e;simp only[aU,gB]at h;split at h
   .rename_i n;cases h;subst n;exact⟨x,by simp[cF],t⟩
   .rename_i n;obtain⟨v,b,c⟩:=rW p h;exact⟨v,by rw[kg,show(f == k)=false by simpa using λz=>n z.symm];exact b,c⟩
theorem mU:∀{v:List (Str×V)},(v.map (·.1)).contains f=false->v.lookup f=none
 | [],_=>rfl
 |(k,x)::r,h=>by simp only[aU,qH,Bool.or_eq_false_iff]at h;rw[kg,h.1];exact mU h.2
theorem u5(h:RD K F H m u v):∀{s:List (Str×V)}{d:List D},dQ K F H m d (s.map (·.2))->(fw f v s).map (·.1)=putK f (s.map (·.1))/\dQ K F H m (oH f u (s.map (·.1)) d) ((fw f v s).map (·.2))
 | [],d,n=>⟨rfl,v,[],rfl,h,rfl⟩
 |(k,x)::r,d,n=>by
  cases d with
  |nil=>cases (show _=([]:List V) from n)
  |cons p d=>
   obtain⟨z,q,e,c,a⟩:=n;simp only[aU,List.cons.injEq]at e;obtain⟨rfl,rfl⟩:=e;by_cases b:k=f
   .simp only[fw,b,eG,aU,putK,oH];first|exact⟨rfl,v,_,rfl,h,a⟩|exact⟨trivial,v,_,rfl,h,a⟩
   .obtain⟨i,t⟩:=u5 h a;simp only[fw,b,gW,aU,putK,oH];exact⟨by rw[i],x,_,rfl,c,t⟩
end
section
variable{X:Cx}{o e g:Expr}{f:Str}{E t j:Pos}{G I:EE}{A:Str->Str->Bool}{es:Ab}{fs:lr}
@[simp] def aE(A:Str->Str->Bool)(o:EE)(f:Str)(L:Lc)(S:aL):sP:=bC (o L S) λd h=>match d with
 | .ref i=>match h[i]? with
  |some (.ins c k s)=>if A c f=true then (gB f k s).map λz=>(z,h) else none
  |_=>none
 |_=>none
theorem ME(B:Lx X.K A)(V:PE X o (tE X.K G))(M:attributeBase o f X.e (eval o X.e)=eval o X.e):PE X (.Attribute o f E) (tE X.K (aE A G f)):=(GV V M).imp' λJ H Q Z=>by
 obtain⟨F,m,L,S,d,S',r,l,q,k⟩:=Z;obtain⟨x,u,y,q⟩:=ah q;refine⟨F,m,L,S,x,u,r,l,y,λv b m1 t s1 n p1=>?_⟩;cases x with
 |p w=>cases q
 |ref i=>
  obtain⟨a,rfl,R⟩:=p1;dsimp only at q;split at q
  .rename_i c ks g W;split at q
   .rename_i I;cases h:gB f ks g with
    |none=>rw[h]at q;cases q
    |some z=>rw[h]at q;cases q;obtain⟨C,j,s,P,D,rfl,rs⟩:=n.obj i a _ R W;obtain⟨C',e,N,T⟩:=B c f I;cases eX.inj P e;obtain⟨v,K,p3⟩:=rW rs h;exact⟨a,C,j,s,v,rfl,D,N,T,K,k v b m1 t s1 n p3⟩
   .cases q
  .cases q
@[simp] def i6(A:Str->Str->Bool)(o:EE)(f:Str)(v:EE)(L:Lc)(S:aL):Al:=bC (v L S) λy x=>bC (o L x) λd h=>match d with
 | .ref i=>match h[i]? with
  |some (.ins c k s)=>if (A c f && decide (k.length < 900))=true then some (.nx,L,h.set i (.ins c (putK f k) (oH f y k s))) else none
  |_=>none
 |_=>none
theorem IZ(hA:Lx X.K A)(ho:PE X o (tE X.K G))(hv:PE X g (tE X.K I))(h:swapsWith g (some (.Attribute o f t)) E.line X.e=pure false):PS X (.Assign [.Attribute o f t] g E) (iG X.K (i6 A G f I)):=(GJ ho hv h).imp' λD J H hz=>by
 obtain⟨F,m,L,S,fl,L',S',r,l,q,k⟩:=hz;obtain⟨y,Q,e1,q⟩:=ah q;obtain⟨d,S2,e2,q⟩:=ah q;refine⟨F,m,L,S,y,Q,r,l,e1,λv Z m1 H1 M r1 p1=>?_⟩;refine⟨Z,m1,L,Q,d,S2,r1,l.mono M,e2,λx e P n N B p2=>?_⟩;cases d with
 |p w=>cases q
 |ref i=>
  obtain⟨a,rfl,K⟩:=p2;dsimp only at q;split at q
  .rename_i c ks ds h;split at q
   .rename_i j;rw[aC]at j;cases q;obtain⟨C,b,s,R,T,rfl,rs⟩:=B.obj i a _ K h;obtain⟨C',u,hc,hn⟩:=hA c f j.1;cases eX.inj R u;have hl:s.length < 1000:=by have:=bq j.2;rw[dL]at this;lia
    have V:∀W,n a≠some (.tup W):=λW z=>by rw[T]at z;cases z
    have st:Stp e P n e P (upd n a (.ins C b (fw f v s))):=ig B K h trivial V;obtain⟨i1,i2⟩:=u5 (f:=f) (RD.mono st (RD.mono N p1)) (dQ.mono st rs);exact⟨a,C,b,s,rfl,T,hc,hn,hl,k J e P _ (M.trans (N.trans st)) (B.set K h trivial V ⟨C,b,_,R,aX,i1,i2⟩) ((l.mono M).mono (N.trans st))⟩
   .cases q
  .cases q
@[simp] def aB(M:Str->Str->Option GF)(o:EE)(y:Str)(a:lr)(L:Lc)(S:aL):sP:=bC (o L S) λd h=>match d with
 | .ref i=>match h[i]? with
  |some (.ins c k _)=>match M c y with
   |some g=>if k.contains y=true then none else bC (a L h) λv x=>g (.ref i::v) x
   |none=>none
  |_=>none
 |_=>none
def Mc(X:Cx)(M:Str->Str->Option GF):Prop:=∀c y g,M c y=some g->∃C k f d p,eX X.K c C/\Cls X.K C/\Meth X.K C y f/\FnOk X.p X.w X.K X.g X.b ow k f d p (oF X.K g)/\Room k X.A/\Binds X.K d p []
variable{M:Str->Str->Option GF}{y:Str}
theorem pe(hM:Mc X M){t:TE}{ta:TA}(n:∀C k f b ps g,Cls X.K C->Meth X.K C y f->FnOk X.p X.w X.K X.g X.b ow k f b ps (oF X.K g)->Room k X.A->Binds X.K b ps []->PE X e (Aw C y (oF X.K g) [] E0 (tE X.K G) (s0 X.K fs))):PE X e (tE X.K (aB M G y fs)):=by
 intro B s J H Q I h;obtain⟨F,m,L,S,d,S',r,l,q,k⟩:=h;obtain⟨x,o,e1,q⟩:=ah q;cases x with
 |p w=>cases q
 |ref i=>
  dsimp only at q;split at q
  .rename_i c ks ds hs;split at q
   .rename_i g hg;split at q
    .cases q
    .rename_i hk;obtain⟨N,K,e2,q⟩:=ah q;obtain⟨C,kk,f,b,ps,ec,hc,hm,hF,hr,hb⟩:=hM c y g hg;refine n C kk f b ps g hc hm hF hr hb B s J H Q I ⟨F,m,L,S,.ref i,o,r,l,e1,λv R m1 H1 D A P=>?_⟩;obtain⟨a,rfl,j⟩:=id P;obtain⟨C',dx,z,u,hH,rfl,rs⟩:=A.obj i a _ j hs;cases eX.inj ec u;refine⟨a,dx,z,rfl,hH,mU (by simpa using hk),R,m1,L,o,N,K,A,l.mono D,e2,λxs T m2 Z E r2 p2=>?_⟩;show oF X.K g (V.ref a::(xs++[])) Z Q E0;rw[dZ];exact⟨T,m2,.ref i::N,K,d,S',r2,⟨_,_,rfl,RD.mono E P,p2⟩,q,λv W m3 H3 s3 r3 p3=>k v W m3 H3 (D.trans (E.trans s3)) r3 p3⟩
   .cases q
  .cases q
theorem Jn(x:Mc X M)(n:PE X o (tE X.K G))(a:PA X (e::es) (s0 X.K fs))(s:starEach (e::es) X.e=(false,eval e X.e)::starEach es X.e)(h:(backTo E (starEach es X.e)).any (·.1)=false)
  (p:eval (.Call (.Attribute o y j) (e::es) [] E) X.e=(do
   let v <- eval o X.e
   standAt j.atName
   let (f,first) <- holding [v] (getMethod v y u)
   callWith E f first (backTo E (starEach (e::es) X.e)) (backToKw E (keywordEach [] X.e)))) :
  PE X (.Call (.Attribute o y j) (e::es) [] E) (tE X.K (aB M G y fs)):=
 pe (t:=tE X.K G) (ta:=s0 X.K fs) x λC k f d q g c m F r b=>Ed n c m F r b .nil o_ a s h p
theorem F9(i:Mc X M)(B:PE X o (tE X.K G))
  (I:eval (.Call (.Attribute o y j) [] [] E) X.e=(do
   let u <- eval o X.e
   standAt j.atName
   let (f,first) <- holding [u] (getMethod u y pl)
   callWith E f first (backTo E (starEach [] X.e)) (backToKw E (keywordEach [] X.e)))) :
  PE X (.Call (.Attribute o y j) [] [] E) (tE X.K (aB M G y aR)):=
 pe (t:=tE X.K G) (ta:=s0 X.K aR) i λC k f fd ps g K A p D z=>(A6 B K A p D z .nil o_ I).imp' λJ H Q h=>by obtain⟨F,m,L,S,d,n,r,l,q,k⟩:=h;refine⟨F,m,L,S,d,n,r,l,q,λv e R x s' Z V=>?_⟩;obtain⟨a,c,fs,rfl,w,P,s,T,L2,S2,ds,b,r2,l2,W,N⟩:=k v e R x s' Z V;cases W;exact⟨a,c,fs,rfl,w,P,N [] s T x .refl r2 rfl⟩
@[simp] def ue(g:GF)(c:Str)(a:lr)(L:Lc)(S:aL):sP:=bC (a L S) λv h=>match g (.ref h.length::v) (h++[.ins c [] []]) with
 |some (.p .non,x)=>some (.ref h.length,x)
 |_=>none
theorem Jo{C f:Addr}{o:FuncData}{ps:LS}{k:Nat}{x:Str}{p:Pos}{g:GF}(M:Mk X.K C f)(G:FnOk X.p X.w X.K X.g X.b ow k f o ps (oF X.K g))(hr:Room (k+1) X.A)(hg:Gl X x)(hm:X.g x=some (.ref C))(W:eX X.K x C)(hb:Binds X.K o ps [])
  (Z:PA X (e::es) (s0 X.K fs)) (i:(x == ("__debug__":Str))=false) (he:starEach (e::es) X.e=(false,eval e X.e)::starEach es X.e) (z:(backTo E (starEach es X.e)).any (·.1)=false) :
  PE X (.Call (.Name x p) (e::es) [] E) (tE X.K (ue g x fs)):=
 (Ee M G hr hg hm hb .nil o_ Z i he z).imp' λJ H Q hz=>by
  obtain⟨F,m,L,S,d,S',r,l,q,k⟩:=hz;obtain⟨D,t,R,q⟩:=ah q;refine⟨F,m,L,S,D,t,r,l,R,λxs s a b s1 K p1=>λy h hy w j=>?_⟩;split at q
  .rename_i _ S2 T;cases q;have P:Stp s a b s a (upd b h (.own y)):=ii w;have r2:Rel X.K s (upd b h (.own y)) a t:=K.new w;have u:upd b h (.own y) y=none:=by rw[aM (bZ j)];exact hy
   have A:Stp s a (upd b h (.own y)) s (a++[y]) (upd (upd b h (.own y)) y (.ins C h [])):=ju u;have r3:Rel X.K s (upd (upd b h (.own y)) y (.ins C h [])) (a++[y]) (t++[.ins x [] []]):=r2.own u ⟨C,h,[],W,aX,rfl,rfl⟩;rw[dZ];have c:(a++[y])[t.length]? = some y:=by rw[<- K.len,gp (aw _)];simp
   refine⟨s,a++[y],.ref t.length::D,_,.p .non,_,r3,⟨_,_,rfl,⟨y,rfl,c⟩,dQ.mono A (dQ.mono P p1)⟩,T,λv I m4 N B r4 p4=>⟨p4,?_⟩⟩;refine k (.ref y) I m4 N (s1.trans (P.trans (A.trans B))) r4 ⟨y,rfl,?_⟩;obtain⟨n,V⟩:=B.pre;rw[V,d1 (bt.mp c).1];exact c
  .cases q
end
theorem Bq(h:attributeBase o y v (eval o v)=eval o v)(e:methodCallForm (r.length+([]:List Keyword).length) (backTo E (starEach r v)) (backToKw E (keywordEach [] v))=true)(l:(j.endLine == E.line)=true) :
  eval (.Call (.Attribute o y j) r [] E) v=(do
   let u <- eval o v
   standAt j.atName
   let (f,first) <- holding [u] (getMethod u y (do return (<- importBound o v).getD true))
   callWith E f first (backTo E (starEach r v)) (backToKw E (keywordEach [] v))):=by
 have x:methodCallPos true o v j E=pure E:=by unfold methodCallPos;rw[l];rfl
 have a:∀u,methodCall o y j E v u (r.length+([]:List Keyword).length) (backTo E (starEach r v)) (backToKw E (keywordEach [] v))=(do
   let (f,first) <- holding [u] (getMethod u y (do return (<- importBound o v).getD true))
   callWith E f first (backTo E (starEach r v)) (backToKw E (keywordEach [] v))):=λu=>by
  unfold methodCall;rw[e,x];rfl
 have s:eval (.Call (.Attribute o y j) r [] E) v=(do
  let u <- attributeBase o y v (eval o v)
  standAt j.atName
  methodCall o y j E v u (r.length+([]:List Keyword).length) (backTo E (starEach r v)) (backToKw E (keywordEach [] v))):=by rfl
 rw[s,h];simp only[a]
section
variable{X:Cx}{o e g:Expr}{f:Str}{E t h:Pos}{G:EE}{I:EV}{A:Str->Str->Bool}
def AM(i:Nat)(v:EV):ES:=λL S=>match L[i]? with
 |some (some (.p (.int a)))=>bC (v L S) λy h=>match y with
  | .int b=>some (.nx,L.set i (some (.p (.int (a+b)))),h)
  |_=>none
 |_=>none
theorem Mj(i:Nat)(N:X.N.Nodup)(h:PE X e (tV X.K I))(g:X.N[i]? = some x)(j:L2.Loc X.e.scope x)(u:X.fn x=true\/X.e.scope.names.lookup x=some .local):PS X (.AugAssign (.Name x t) .Add e E) (iG X.K (AM i I)):=
 (GK N g j h HA u).imp' λD J H z=>by
  obtain⟨F,m,L,S,M,B,C,r,l,q,k⟩:=z;unfold AM at q;split at q
  .rename_i a w;obtain⟨y,G,p,q⟩:=ah q;cases y with
   |int b=>cases q;obtain⟨A,d,K⟩:=l.at' i _ w;cases (show A=.int a from K);refine⟨_,d,F,m,L,S,_,_,r,l,p,λv s f n c P o=>?_⟩;cases (show v=.int b from o);exact⟨a,b,rfl,rfl,k _ s f n c P ((l.mono c).set (show RD X.K s n f (.p (.int (a+b))) (.int (a+b)) from rfl) i)⟩
   |_=>cases q
  .cases q
def lw(A:Str->Str->Bool)(o:EE)(f:Str)(v:EV):ES:=λL S=>bC (o L S) λd h=>match d with
 | .ref i=>match h[i]? with
  | some (.ins c m n)=>if A c f=true then (match gB f m n with
   |some (.p (.int a))=>bC (v L h) λy x=>match y,x[i]? with
    | .int b,some (.ins e k s)=>if (decide (e=c) && decide (k.length < 900))=true then some (.nx,L,x.set i (.ins c (putK f k) (oH f (.p (.int (a+b))) k s))) else none
    |_,_=>none
   |_=>none) else none
  |_=>none
 |_=>none
theorem Jb(hA:Lx X.K A)(ho:PE X o (tE X.K G))(hv:PE X g (tV X.K I)):PS X (.AugAssign (.Attribute o f h) .Add g E) (iG X.K (lw A G f I)):=(yV ho hv HC).imp' λD J H hz=>by
 obtain⟨F,m,L,S,fl,L',S',r,l,q,k⟩:=hz;obtain⟨d,S1,e1,q⟩:=ah q;refine⟨F,m,L,S,d,S1,r,l,e1,λx F1 m1 H1 s1 r1 p1=>?_⟩;cases d with
 |p w=>cases q
 |ref i=>
  obtain⟨a,rfl,hm⟩:=id p1;dsimp only at q;split at q
  .rename_i c ks ds hs;split at q
   .rename_i ha;split at q
    .rename_i K el;obtain⟨y,S2,e2,q⟩:=ah q;obtain⟨C,dx,W,R,hH,rfl,rs⟩:=r1.obj i a _ hm hs;obtain⟨C',T,hc,hn⟩:=hA c f ha;cases eX.inj R T;obtain⟨v,e3,p3⟩:=rW rs el;cases (show v=.int K from p3);refine⟨a,C,dx,W,_,rfl,hH,hc,hn,e3,F1,m1,L,S1,y,S2,r1,l.mono s1,e2,λu B N M s2 Z p2=>?_⟩;split at q
     .rename_i b c' ks' ds' j;split at q
      .rename_i n;rw[aC]at n;have e5:=bq n.1;subst e5;cases q;cases (show u=.int b from p2);obtain⟨a2,Q,t⟩:=RD.mono s2 p1;cases Q;obtain⟨C2,e,s,V,P,rfl,rs2⟩:=Z.obj i a _ t j;cases eX.inj R V;have hl:s.length < 1000:=by have:=bq n.2;rw[dL]at this;lia
       have nt:∀zs,M a≠some (.tup zs):=λzs z=>by rw[P]at z;cases z
       have st:Stp B N M B N (upd M a (.ins C e (fw f (.int (K+b)) s))):=ig Z t j trivial nt;obtain⟨i1,i2⟩:=u5 (f:=f) (show RD X.K B (upd M a (.ins C e (fw f (.int (K+b)) s))) N (.p (.int (K+b))) (.int (K+b)) from rfl) (dQ.mono st rs2);exact⟨K,b,rfl,rfl,e,s,P,hl,k J B N _ (s1.trans (s2.trans st)) (Z.set t j trivial nt ⟨C,e,_,R,aX,i1,i2⟩) ((l.mono s1).mono (s2.trans st))⟩
      .cases q
     .cases q
    .cases q
   .cases q
  .cases q
end
section
variable{X:Cx}{e:Expr}{es:Ab}{fs:gc}{p E:Pos}
noncomputable def lF:List P->Option P
 | [.int i]=>if decide (i.natAbs.log2 < 1920)=true then some (.str (toString i)) else none
 |_=>none
theorem Fc:dc X (.type "str") (rC X.K lF):=by
 intro B s J H b u Q I r h;obtain⟨F,n,d,f,e,q,k⟩:=h;unfold lF at q;split at q
 .split at q
  .rename_i i a;cases q;obtain⟨x,rfl,p⟩:=AQ e;exact sF B s J H _ u Q I r ⟨i,by rw[show x=_ from p],bq a,k _ F H .refl rfl⟩
  .cases q
 .cases q
theorem Ji(g:Gl X "str")(m:X.g "str"=none)(a:PA X (e::es) (sQ X.K fs))
  (x:starEach (e::es) X.e=(false,eval e X.e)::starEach es X.e) (h:(backTo E (starEach es X.e)).any (·.1)=false):PE X (.Call (.Name "str" p) (e::es) [] E) (tV X.K (ck lF fs)):=z8 Fc g m Dm a (by decide) (by decide) x h
end
variable{F:Aa}{H:Hp}
theorem s_:∀h:LS,cI K F H (h.map .str) (h.map V.str)
 | []=>rfl
 |s::r=>⟨_,_,rfl,rfl,s_ r⟩
variable{k:SV}{x:Str}
theorem lh(s:LS)(m:k x=some (.ref a))(h:K.lookup a=some ⟨.type "tuple",none,.seq r n,u⟩)(z:r.size≤sizeLine)(v:bi (s.map V.str) r.toList):sM K k x (.tup (s.map .str)):=
 ⟨.ref a,.ref a,m,rfl,λF H=>⟨a,s.map V.str,rfl,.inr (.inr ⟨_,r,n,h,rfl,rfl,rfl,z,v⟩),s_ s⟩⟩
open PySem.W (KasT kas_sort kas_ask kas_item kat_run kat_snds kat_lt kat_kind KatTups KatLex kat_nil kat_cons kat_yes kat_no kat_one)
noncomputable def Om(lt:Nat->Nat->Option Bool):KasT q->Option q
 | .ret a=>some a
 | .ask i j k=>match lt i j with
  |some b=>Om lt (k b)
  |none=>none
noncomputable def PK:P->P->Option Bool
 | .tup [.str a,.int i],.tup [.str b,.int j]=>some (if a=b then decide (i < j) else decide (a.cps.toList < b.cps.toList))
 |_,_=>none
noncomputable def Nw:P->Bool
 | .tup [.str _,.int _]=>true
 |_=>false
def KP(d:List P)(i j:Nat):Option Bool:=match d[i]?,d[j]? with
 |some x,some y=>PK x y
 |_,_=>none
def JU(d:List P):Option (List P):=if d.length < 2 then some d else if d.length < 64 then (Om (KP d) (kas_sort d.length)).bind λp=>if p.size < 64 then some (p.toList.map λi=>d.getD i .non) else none else none
def sortable(d:List P):Bool:=d.all Nw
def Co(d:List P):Option P:=if sortable d=true then (JU d).map .lst else none
def KV(h:Heap)(d:P)(v:Value):Prop:=∃x i a o n t u,d=.tup [.str x,.int i]/\v=.ref a/\h.get? a=some o/\o.cls=.type "tuple"/\o.data=.seq #[.str x t,.int i u] n
section
variable{X:Cx}
theorem zb{r:Heap}{C:Nat}(I:Inv X B J H s)(S:s.heap.Ns X.e.locals m)(a:r.Ns X.e.locals m)(k:∀b o,b≠X.e.locals->s.heap.get? b=some o->r.get? b=some o):Inv X B J H { s with heap:=r,toks:=C }:=by
 have L:∀b u,H b=some u->b≠X.e.locals:=λb u e z=>by rw[z,I.free]at e;cases e
 refine I.step (g':=s.gens) (d':=s.drawn) (ch:=[]) (λ_ z=>nomatch z) (λb o h _ _ e _=>k b o h e) (λb o h _ _ e _=>⟨o.slots,k b o h e⟩) (λ_ _ _ _ n=>n) (λb o _ e=>?_) (λ_ _ e=>e) (λ_ _ _ e=>e) (λb M e=>⟨#[],by rw[e];simp⟩) (λP y=>?_) (λb u e=>?_) I.bare
 .by_cases h:b=X.e.locals
  .subst h;obtain⟨A,_,_,w,_⟩:=a;exact⟨A,w⟩
  .exact⟨o,k b o h e⟩
 .obtain⟨o,es,D,F,l,E,t⟩:=S;obtain⟨G,i,g,f,d,K,p⟩:=y;rw[F]at f;cases f;rw[l]at d;cases d;have:m=P:=funext λx=>(t x).symm.trans (p x);rw[<- this];exact a
 .refine (I.h b u e).stay (λc v j q=>k c v ?_ q) (λ_ q=>q) λ_ _ q=>q;rcases j with z|z
  .rw [z];exact L b u e
  .exact L c _ z
theorem BA(k:∀b o,r.get? b=some o->v.get? b=some o)(F:Fr r Q h' m)(N:News r Q h' (kN r v Q)):∀b o,b≠Q->v.get? b=some o->h'.get? b=some o:=λb o h e=>by
 cases q:r.get? b with
 |some u=>have:=k b u q;rw[e]at this;cases this;exact F.keep b _ q
 |none=>exact(N (b,o) (tS h q e)).1
theorem Bd{P:Program}{w:World}{H:Hp}{h:Heap}{a:Addr}{o:HO}(x:cj P w H h a o):∃u,h.get? a=some u:=by
 cases o with
 |lst s=>obtain⟨_,_,_,_,e⟩:=x;exact⟨_,e⟩
 |tup s=>obtain⟨_,_,_,_,e,_⟩:=x;exact⟨_,e⟩
 |dK k=>obtain⟨_,_,_,_,_,_,_,e,_⟩:=x;exact⟨_,e⟩
 |dT k=>obtain⟨_,_,_,_,_,_,_,e,_⟩:=x;exact⟨_,e⟩
 |set S n=>obtain⟨_,_,_,_,e,_⟩:=x;exact⟨_,e⟩
 |ins C d fs=>obtain⟨_,_,_,e,_⟩:=x;exact⟨_,e⟩
 |own y=>exact x
 |xd fs=>obtain⟨_,⟨_,_,_,e,_⟩,_⟩:=x;exact⟨_,e⟩
 |rng lo i=>obtain⟨_,_,_,e⟩:=x;exact⟨_,e⟩
 |frz b u=>exact⟨_,x.1⟩
 |tbl p=>exact⟨_,(show h.get? a=some _ from x)⟩
 |met f y=>exact⟨_,(show h.get? a=some _ from x)⟩
 |ext c=>exact x.2.1
theorem HB{B:PN}{J:L2.St}{H:Hp}{s:Shared}{D:Addr}(I:Inv X B J H s)(h:s.heap.get? D=none):H D=none:=by
 cases q:H D with
 |none=>rfl
 |some v=>obtain⟨u,e⟩:=Bd (I.h D v q);rw[h]at e;cases e
noncomputable def N_:List D->Option (List P)
 | []=>some []
 | .p v::r=>(N_ r).map (v::·)
 | .ref _::_=>none
noncomputable def JW:P->Option (List P)
 | .lst x=>some x
 | .ro x=>some x
 | .tup x=>some x
 |_=>none
def M0:D->aL->Option (List P)
 | .p v,_=>JW v
 | .ref i,S=>match S[i]? with
  |some (.lst d)=>N_ d
  |some (.fz v)=>JW v
  |_=>none
@[simp] def N9(r:EE)(L:Lc)(S:aL):tyV:=bC (r L S) λd h=>match M0 d h with
 |some x=>(Co x).map λv=>(v,h)
 |none=>none
end
noncomputable def PR(K:FG)(e:Bool)(a:Addr):It:=if e=true then N4 K a else Me K a
inductive tIOI(K:FG)(en:Bool)(fe:EE)(J:L2.St)(H:Hp)(R:It->Hp->Prop):Prop
 |mk (F:Aa) (m:List Addr) (L:Lc) (S:aL) (j:Nat) (S':aL) (ds:List D) (h0_:Rel K F H m S) (h1_:RL K F H m J L) (h2_:fe L S=some (.ref j,S')) (h3_:S'[j]? = some (.lst ds)) (h4_:∀a F' m' H',Stp F m H F' m' H'->Rel K F' H' m' S'->m'[j]? = some a->R (PR K en a) H'):tIOI K en fe J H R
section
variable{X:Cx}{E:Pos}
@[simp] def Qz(a:EV)(L:Lc)(S:aL):tyV:=bC (a L S) λv h=>match v with
 | .int j=>if decide (j.natAbs < 1000000)=true then some (.lst (intsFrom 0 j.toNat),h) else none
 |_=>none
end
section
variable{X:Cx}{E:Pos}
theorem yK{p:Program}{w:World}{A:Around}{E:VP}{s:Shared}{t l:Addr}{i:Array Value}{v u:Value}{lo x:Option Int}{Q:VP}(h:IsTup s.heap t i)(a:s.heap.IsSliceOf l v u .none)(b:IsPart v lo)(c:IsPart u x)
  (k:HT.dw i.size 0 lo=0) (f:HT.dw i.size i.size x=i.size) (q:Q (.ref t) s):wpAny (model p w) A (getItem (.ref t) (.ref l)) Q E s:=by
 have T:s.TypeIs (.ref l) "slice":=by obtain⟨o,e,n,_⟩:=a;exact⟨o,e,n⟩
 unfold getItem;try with_reducible refine gJ ?_
 first|refine ae (aJ ?_)|skip
 refine ae (xt h.typeIs (by decide) ?_);refine ae (xE (name:=Str.ofString "__getitem__") h.typeIs hT (xh hT h.typeIs wn ?_ (wm _ _)));show wpAny _ _ (vN (.ref t) >>= _) _ _ s;refine ae (wj h (ae (mP T ?_)));rw[ai (by decide)];refine ae (HT.g5 a b c ?_);rw[k,f];have y:((((0:Nat):Int) == 0 && (1:Int) == 1 && (i.size-0) == i.size)=true):=by simp
 show wpAny _ _ (if ((((0:Nat):Int) == 0 && (1:Int) == 1 && (i.size-0) == i.size)=true) then _ else _) _ _ s;rw[ai y];refine ae (ae (mP h.typeIs ?_));refine aJ ?_;rw[ai (by rfl)];first
  |exact ae (aJ (aJ ⟨_,rfl,aJ q⟩))
  |exact ae (wpAny_rule (aJ ⟨_,rfl,aJ q⟩))
  |exact aJ ⟨_,rfl,aJ q⟩
theorem tf:Fp X (λx lo n H Q=>∃a e,x=.ref a/\pL X.K H a e/\HT.dw e.length 0 lo=0/\HT.dw e.length e.length n=e.length/\Q (.ref a) H):=by
 intro B s J H x v w g lo n d Q I m b p u h;obtain⟨a,e,rfl,c,k,f,q⟩:=h;cases m;obtain⟨i,r,t,_⟩:=I.tuple c;have l:i.toArray.size=e.length:=by rw[bB];exact r.length.symm
 exact⟨"tuple",_,hT.lookup,t.typeIs,yK t b p u (by rw[l];exact k) (by rw[l];exact f) ⟨.ref a,H,I,rfl,q⟩⟩
theorem AH:Fp X (λx lo e H Q=>∃z,x=.str z/\z.length≤sizeLine/\Q (.str (Txt.slice z lo e)) H):=by
 intro B s J H x v F K lo e S Q I y w g p h;obtain⟨z,rfl,m,q⟩:=h;obtain⟨t,rfl⟩:=y;refine⟨"str",_,PySem.F.slot_str_getitem.lookup,qU _ _ _,?_⟩;have f:∀lo e:Option Int,Q (.str (Txt.slice z lo e)) H->∀a k,EP X B J Q (.str (Txt.slice z lo e) a) { s with toks:=k }:=λlo e q a k=>⟨.str _,H,I.tok _,⟨a,rfl⟩,q⟩
 obtain⟨o,n,b,c⟩:=w;cases g with
 |none=>
  cases p with
  |none=>exact pQ (l:=none) (u:=none) (st:=none) ⟨o,n,b,c⟩ rfl (pM ⟨bN (ma z _ _) m,λa k=>f _ _ q a k⟩)
  |int j r=>exact pQ (l:=none) (u:=some (j,r)) (st:=none) ⟨o,n,b,c⟩ rfl (pM ⟨bN (ma z _ _) m,λa k=>f _ _ q a k⟩)
 |int i d=>
  cases p with
  |none=>exact pQ (l:=some (i,d)) (u:=none) (st:=none) ⟨o,n,b,c⟩ rfl (pM ⟨bN (ma z _ _) m,λa k=>f _ _ q a k⟩)
  |int j r=>exact pQ (l:=some (i,d)) (u:=some (j,r)) (st:=none) ⟨o,n,b,c⟩ rfl (pM ⟨bN (ma z _ _) m,λa k=>f _ _ q a k⟩)
def g9:P->Option Int->Option Int->Option P
 | .str x,lo,h=>if iy x.length=true then some (.str (Txt.slice x lo h)) else none
 | .tup s,lo,h=>some (.tup (cut s lo h))
 |x,lo,h=>Qd x lo h
@[simp] def gL(a:EV)(lo n:EO)(L:Lc)(S:aL):tyV:=bC (a L S) λx h=>bC (lo L h) λi e=>bC (n L e) λj s=>(g9 x i j).map λv=>(v,s)
theorem Mt{e:Expr}{lo M:Option Expr}{C:EV}{I G:EO}{E p2:Pos}(he:PE X e (tV X.K C))(hl:PO X lo (tO X.K I))(hh:PO X M (tO X.K G)):PE X (.Subscript e (.Slice lo M none p2) E) (tV X.K (gL C I G)):=
 (tB ((xR.or (AG.or tf)).or AH) he hl hh).imp' λJ H Q hz=>by
  obtain⟨F,m,L,S,d,S',r,l,q,k⟩:=hz;obtain⟨x,B,W,q⟩:=ah q;obtain⟨i,D,Z,q⟩:=ah q;obtain⟨j,V,e3,q⟩:=ah q;refine⟨F,m,L,S,x,B,r,l,W,λv R m1 H1 o r1 p1=>?_⟩;refine⟨R,m1,L,B,i,D,r1,l.mono o,Z,λT m2 H2 K r2=>?_⟩;refine⟨T,m2,L,D,j,V,r2,(l.mono o).mono K,e3,λP f A N b=>?_⟩;have g:=RP.mono N (RP.mono K p1);have c:=o.trans (K.trans N);cases x with
  |lst u=>cases q;obtain⟨a,s,rfl,t,n⟩:=g;exact .inl (.inl ⟨a,s,rfl,t.sq,λp h=>k _ _ f _ (c.trans (bY h).stp) (b.grow (bY h)) (.newLst h (n.cut i j))⟩)
  |ro u=>cases q;obtain⟨a,s,rfl,t,n⟩:=g;exact .inl (.inl ⟨a,s,rfl,t.sq,λp h=>k _ _ f _ (c.trans (bY h).stp) (b.grow (bY h)) (.newLst h (n.cut i j))⟩)
  |tup u=>
   obtain⟨a,s,rfl,t,n⟩:=g;cases q;by_cases w:HT.dw s.length 0 i=0/\HT.dw s.length s.length j=s.length
   .have y:cut u i j=u:=by
     unfold cut;rw[n.length,w.1,w.2,ke,xa,<- n.length,wK]
    rw[y]at k;exact .inl (.inr (.inr ⟨a,s,rfl,t.sq,w.1,w.2,k _ P f A c b ⟨a,s,rfl,t,n⟩⟩))
   .exact .inl (.inr (.inl ⟨a,s,rfl,t.sq,w,λp h=>k _ _ f _ (c.trans (bQ h).stp) (b.grow (bQ h)) (.newTup h (n.cut i j))⟩))
  |str z=>
   cases (show v=.str z from g);simp only[g9]at q;split at q
   .rename_i y;cases q;exact .inr ⟨z,rfl,fA y,k _ P f A c b rfl⟩
   .cases q
  |_=>cases q
def eI:List P->Option P
 | [.str x]=>if x.length≤640 then (kT x).map .int else none
 |s=>yt s
theorem Cj:dc X (.type "int") (rC X.K eI):=by
 intro B s J H v b Q I r h;obtain⟨F,a,d,c,f,q,k⟩:=h;have o:yt a=some d->wx X (call (.type "int") b) (EP X B J Q) X.xe s:=λq=>Ff B s J H v b Q I r ⟨F,a,d,c,f,q,k⟩
 unfold eI at q;split at q
 .rename_i x;split at q
  .rename_i l;cases e:kT x with
   |none=>rw[e]at q;cases q
   |some n=>rw[e]at q;cases q;obtain⟨y,rfl,p⟩:=AQ f;cases (show y=.str x from p);obtain⟨u,rfl,m⟩:=vals1 r;obtain⟨t,rfl⟩:=m;exact PySem.W.KIN.call_text e l ⟨.int n,H,I.tok _,⟨_,rfl⟩,k _ F H .refl rfl⟩
  .cases q
 .exact o q
variable{e:Expr}{es:Ab}{fs:gc}{p:Pos}
theorem F6(g:Gl X "int")(m:X.g "int"=none)(a:PA X (e::es) (sQ X.K fs))(x:starEach (e::es) X.e=(false,eval e X.e)::starEach es X.e)(h:(backTo E (starEach es X.e)).any (·.1)=false) :
  PE X (.Call (.Name "int" p) (e::es) [] E) (tV X.K (ck eI fs)):=z8 Cj g m wr a (by decide) (by decide) x h
inductive PEs(X:Cx):Ab->List EV->Prop
 |nil:PEs X [] []
 |cons {e es f fs}:PE X e (tV X.K f)->PEs X es fs->PEs X (e::es) (f::fs)
@[simp] def Ai(a b c:EV)(L:Lc)(S:aL):tyV:=bC (a L S) λd h=>bC (b L h) λy x=>bC (c L x) λz e=>match d with
 | .dct s v=>match iI y with
  |some k=>some ((fW k s v).getD z,e)
  |none=>none
 |_=>none
theorem o6:∀{k:List (dX×V)}{d:List P},cI K F H d (k.map (·.2))->fW u (k.map (·.1)) d=none->ia k u=none
 | [],d,r,h=>rfl
 |(s,v)::k,[],r,h=>by have:=r.length;simp at this
 |(s,v)::k,b::d,r,h=>by
  obtain⟨x,m,e,p,n⟩:=r;rw[aU]at e;injection e with c f;simp only[aU,fW]at h;by_cases a:s=u
  .rw [ai a]at h;cases h
  .rw [ar a]at h;rw[<- f]at n;rw[fG (p:=(s,v)) a];exact o6 n h
theorem F7(hu:X.A.units+1 < cLine)(ho:PE X o (tV X.K G))(ha:PE X a (tV X.K C))(hb:PE X b (tV X.K N))(m:M2 X o "get" ap a b cp):PE X (.Call (.Attribute o "get" ap) [a,b] [] cp) (tV X.K (Ai G C N)):=
 (A_ hu ho ha hb m).imp' λJ H Q hz=>by
  obtain⟨F,m,L,S,d,S',r,l,q,k⟩:=hz;obtain⟨x,P,W,q⟩:=ah q;obtain⟨y,A,Z,q⟩:=ah q;obtain⟨z,T,e3,q⟩:=ah q;refine⟨F,m,L,S,x,P,r,l,W,λv M m1 H1 j r1 p1=>?_⟩;cases x with
  |dct ks V=>
   obtain⟨a,s,rfl,g,B,ek,ra⟩:=id p1;refine⟨a,rfl,.inl ⟨s,.inl B⟩,?_⟩;refine⟨M,m1,L,P,y,A,r1,l.mono j,Z,λvy R m2 H2 f r2 p2=>?_⟩;refine⟨R,m2,L,A,z,T,r2,(l.mono j).mono f,e3,λvz K D t c E p3=>?_⟩;have h:t a=some (.dK s):=(f.trans c).frk _ _ g B;have e:=cI.mono c (cI.mono f ra);have py:=RP.mono c p2;dsimp only at q;split at q
   .rename_i i p;cases q;have u:=i' p py;subst u ek;have I:=j.trans (f.trans c);cases n:fW i (s.map (·.1)) V with
    |none=>have hm:=o6 e n;refine⟨none,by rw[<- hm];exact kQ.k h,?_⟩;rw[n]at k;exact k vz K D t I E p3
    |some w=>obtain⟨v,h1,h2⟩:=kX e n;refine⟨some v,by rw[<- h1];exact kQ.k h,?_⟩;rw[n]at k;exact k v K D t I E h2
   .cases q
  |_=>cases q
def IA(w:World):List DictEntry->List (Str×P)->Prop
 | [],[]=>True
 |e::es,(k,p)::r=>(∃t,e.key=.str k t)/\e.hash=hashStr w k/\(∃v,RelV v e.val/\∀K F H,RP K F H p v)/\IA w es r
 |_,_=>False
def Fq(w:World)(K:FG)(k:SV)(x:Str)(v:List (Str×P)):Prop:=
 ∃a o es e,k x=some (.ref a)/\K.lookup a=some o/\o.ExactDict/\o.data=.dict es e/\IA w es.toList v/\(v.map (·.1)).Nodup
theorem n7:∀{es:List DictEntry}{s:List (Str×P)},IA w es s->∃x:List (dX×Value),Pairs (bJ Q w) es x/\x.map (·.1)=s.map (λp=>Sum.inr p.1) /\
  (∀k p,s.lookup k=some p->∃v u,valueAt x (Sum.inr k)=some u/\RelV v u/\∀K F H,RP K F H p v)/\∀e ∈ es,∃k,(bJ Q w).is k e.key=true/\e.hash=(bJ Q w).hash k
 | [],[],_=>⟨[],.nil,rfl,λk p z=>(by simp at z),λe z=>(by cases z)⟩
 | [],_::_,h=>h.elim
 |_::_,[],h=>h.elim
 |e::es,(k,p)::r,h=>by
  obtain⟨⟨t,m⟩,c,⟨v,S,pv⟩,h⟩:=h;obtain⟨x,d,g,i,j⟩:=n7 (Q:=Q) h;have f:(bJ Q w).is (.inr k) e.key=true:=by rw[m];exact i9 Q w k t
  refine⟨(.inr k,e.val)::x,.cons f rfl d,by simp[g],λa l z=>?_,λb z=>?_⟩
  .by_cases n:a=k
   .subst n;rw[List.lookup_cons_self]at z;cases z;exact⟨v,e.val,by simp[valueAt],S,pv⟩
   .rw [kg,show(a == k)=false by simpa using n]at z;obtain⟨B,A,q,y,o⟩:=i a l z;refine⟨B,A,?_,y,o⟩;unfold valueAt at q ⊢;rw[hX];have:¬(Sum.inr k:dX)=Sum.inr a:=λz=>n (by cases z;rfl)
    simp only[this,decide_false];exact q
  .rcases av.mp z with rfl|z
   .exact⟨.inr k,f,c⟩
   .exact j b z
theorem pb:∀{s:LS},s.Nodup->(s.map (Sum.inr:Str->dX)).Nodup
 | [],_=>by simp
 |x::s,h=>by rw[fk]at h;rw[aU,fk];refine⟨λz=>?_,pb h.2⟩;obtain⟨y,a,e⟩:=hV.mp z;cases e;exact h.1 a
def oA(s:List (Str×P))(b:EV):EV:=λL S=>bC (b L S) λy h=>match y with
 | .str k=>(s.lookup k).map λv=>(v,h)
 |_=>none
theorem Jh(hg:Gl X x)(ht:Fq X.w X.K X.g x kvs)(hd:(x == ("__debug__":Str))=false)(Z:PE X b (tV X.K N))(c:kO b):PE X (.Subscript (.Name x p) b E) (tV X.K (oA kvs N)):=by
 obtain⟨a,o,es,M,hm,hk,w,G,ge,nd⟩:=ht;obtain⟨vs,R,T,V,W⟩:=n7 (Q:=X.p) ge;have ix:CG X (λx y H Q=>∃k p,x=.ref a/\y=.str k/\kvs.lookup k=some p/\∀v,(∀K F H,RP K F H p v)->Q v H):=by
  intro g i B s J H x y v u Q I rx ry h c;obtain⟨k,p,rfl,rfl,hl,q⟩:=h;cases rx;obtain⟨t,rfl⟩:=ry;obtain⟨v,u,n,rv,pv⟩:=V k p hl;have j:=I.kIn a o hk;have D:s.heap.DictOf (bJ X.p X.w) a vs:=by refine⟨o,es,M,j,w,G,λe he=>W e (by simpa using he),R,?_⟩;rw[T,show(kvs.map λp=>(Sum.inr p.1:dX))=(kvs.map (·.1)).map Sum.inr by rw[qF];rfl];exact pb nd
  exact mv ⟨o,j,w.1⟩ xm.lookup (xk (knd:=bJ X.p X.w) (i9 X.p X.w k t) D.mapOf n ⟨v,H,I.tok _,rv,q v pv⟩) c
 exact(A8 ix (rN (v:=.ref a) hg hm rfl hd) Z c).imp' λJ H Q hz=>by
  obtain⟨F,m,L,S,d,S',r,l,q,k⟩:=hz;obtain⟨y,C,n,q⟩:=ah q;refine⟨F,m,L,S,y,C,r,l,n,λv P m1 A s1 r1 p1=>?_⟩;cases y with
  |str z=>
   dsimp only at q;cases f:kvs.lookup z with
   |none=>rw[f]at q;cases q
   |some pp=>rw[f]at q;cases q;exact⟨z,_,rfl,p1,f,λv pv=>k v P m1 A s1 r1 (pv _ _ _)⟩
  |_=>cases q
end
noncomputable def DN:List dX->List P->Option (List (Str×P))
 | [],[]=>some []
 | .inr k::s,v::h=>(DN s h).map λr=>(k,v)::r
 |_,_=>none
noncomputable def BK:P->Bool
 | .dct _ _=>true
 |_=>false
def gI(w:World)(K:FG)(k:SV)(x:Str)(v:P):Prop:=(BK v=false->sM K k x v)/\∀h a,v=.dct h a->∃s,DN h a=some s/\Fq w K k x s
variable{w:World}
theorem gI.plain(h:sM K k x v)(a:BK v=false):gI w K k x v:=⟨λ_=>h,λs n e=>by subst e;cases a⟩
theorem gI.tab(e:DN r u=some v)(h:Fq w K k x v):gI w K k x (.dct r u):=⟨(λz=>nomatch z),λs a z=>by cases z;exact⟨v,e,h⟩⟩
section
variable{X:Cx}
variable{e:Expr}{es:Ab}{fs:gc}{p E:Pos}
end
end Ev
namespace Ev
open PySem PySem.Spec PyProof.Rows L2
def KY(ps:List P)(y:P):Option Nat:=if (ps.all (hG 19) && hG 19 y)=true then (u7 ps).findIdx? λz=>fh z (pd y) else none
@[simp] def O3(a f:EV)(L:Lc)(S:aL):tyV:=bC (a L S) λv x=>match v with
 | .lst p=>bC (f L x) λy h=>(KY p y).map λ(i:Nat)=>(.int (i:Int),h)
 | .tup p=>bC (f L x) λy h=>(KY p y).map λ(i:Nat)=>(.int (i:Int),h)
 |_=>none
noncomputable def yd[DecidableEq d](k:d):List d->List D->Option D
 |h::s,v::x=>if h=k then some v else yd k s x
 |_,_=>none
noncomputable def ze[DecidableEq d](k:d)(v:D):List d->List D->List d×List D
 |h::s,w::x=>if h=k then (h::s,v::x) else (h::(ze k v s x).1,w::(ze k v s x).2)
 |_,_=>([k],[v])
def nZ:List P->Option (List dX)
 | []=>some []
 |p::r=>(iI p).bind λk=>(nZ r).map λs=>k::s
noncomputable def Eg(d:D)(S:aL):Option (Nat×List (List dX)×List D):=match d with
 | .ref i=>match S[i]? with
  |some (.dtt k v)=>some (i,k,v)
  |_=>none
 |_=>none
section
variable{X:Cx}{a k:Pos}{o x:Expr}{b:Ab}{n:EE}{c:gc}{m:EV}
@[simp] def NF(_L:Lc)(S:aL):sP:=some (.ref S.length,S++[.dtt [] []])
@[simp] def Qc(o:EE)(k:gc)(L:Lc)(S:aL):sP:=bC (o L S) λd x=>bC (k L x) λp h=>match Eg d h,nZ p with
 |some (_,s,v),some e=>if few p=true then (yd e s v).map λz=>(z,h) else none
 |_,_=>none
@[simp] def Op(o:EE)(k:gc)(L:Lc)(S:aL):sP:=bC (o L S) λd h=>match Eg d h with
 |none=>none
 |some _=>bC (k L h) λp x=>match Eg d x,nZ p with
  |some (_,s,v),some e=>if few p=true then some ((yd e s v).getD (.p .non),x) else none
  |_,_=>none
@[simp] def Og(o:EE)(k:gc)(v:EV)(L:Lc)(S:aL):Al:=bC (v L S) λy a=>bC (o L a) λd n=>bC (k L n) λp h=>match Eg d h,nZ p with
 |some (i,s,x),some e=>if (s.Nodup/\few s=true/\few p=true) then some (.nx,L,h.set i (.dtt (ze e (.p y) s x).1 (ze e (.p y) s x).2)) else none
 |_,_=>none
end
section
variable{X:Cx}{o e f:Expr}{r t:Pos}{n p:EE}{q:EV}
@[simp] def LW(o:EE)(k:EV)(d:EE)(L:Lc)(S:aL):sP:=bC (o L S) λx a=>match Kj x a with
 |none=>none
 |some _=>bC (k L a) λz n=>bC (d L n) λy h=>match Kj x h,iI z with
  |some (i,s,v),some e=>if (s.Nodup/\few s=true) then match yd e s v with
    |some w=>some (w,h)
    |none=>some (y,h.set i (.dct (ze e y s v).1 (ze e y s v).2))
   else none
  |_,_=>none
end
end Ev
namespace PySem
open PySem PyProof.Rows
section
variable{prog:Program}{w:World}{A:Around}{E:VP}{s:Shared}
def FR(h:Heap)(z TI TO:Addr)(f x:Value):Prop:=h.get? z=some { cls:=.type "zip",data:=.fields #[f,x,.bool false,.ref TI,.ref TO] }
def CF(h:Heap)(T:Addr)(a b:Value):Prop:=h.get? T=some { cls:=.type "tuple",data:=.seq #[a,b] }
end
section
variable{prog:Program}{w:World}{A:Around}{E:VP}{s:Shared}
def Rf(d:Addr)(h:Heap)(z TI TO i x l a:Addr)(k:Nat):Prop:=CF h TI (.ref i) (.ref x)/\h.IsListIter i l k/\h.IsTupleIter x a k /\
 ((k=0/\FR h z TI TO .none (.bool false)/\CF h TO .none .none)\/∃(T:Addr)(o:Obj)(f:Bool),FR h z TI TO (rawInt T) (.bool f)/\h.get? T=some o/\T≠z/\T≠i/\T≠x/\T≠d)
structure ZAp(d z TI TO i1 i2 l1 l2:Addr):Prop where
 nd:[d,z,TI,TO,i1,i2].Nodup
 l1n:l1 ∉ [d,z,TI,TO,i1,i2]
 l2n:l2 ∉ [d,z,TI,TO,i1,i2]
end
section
variable{prog:Program}{w:World}{K:Type}[DecidableEq K]{h:KeyKind prog w K}{A:Around}{E:VP}{R:Result->Shared->Prop}
inductive ZipsAt(knd:KeyKind prog w K):LV->LV->List (K×Value)->Prop
 |nil {vs:LV}:ZipsAt knd [] vs []
 |cons {key v:Value}{k:K}{us vs:LV}{kvs:List (K×Value)}:knd.is k key=true->ZipsAt knd us vs kvs->ZipsAt knd (key::us) (v::vs) ((k,v)::kvs)
end
end PySem
namespace Ev
open PySem PySem.Spec PyProof.Rows L2
@[simp] def NE(f b:EV)(L:Lc)(S:aL):sP:=bC (f L S) λx a=>bC (b L a) λy h=>match x,y with
 | .lst s,.tup v=>match nZ s with
  |some k=>if (k.Nodup/\few s=true/\k.length≤v.length) then some (.ref h.length,h++[.dct k ((v.take k.length).map .p)]) else none
  |none=>none
 |_,_=>none
end Ev
namespace Kd
open PySem
open Sem (wp)
structure Fix(o' o:Obj):Prop where
 dict:o'.dict=o.dict
 cls:o'.cls=o.cls
 live:o.isFreed=false->o'.isFreed=false
 two:∀vs,o.data=.fields vs->∃vs',o'.data=.fields vs'/\vs'[2]? = vs[2]?
 sl:(∀vs,o.data≠.fields vs)->∃sl,o'={ o with slots:=sl }
variable{o:Obj}
theorem Fix.refl:Fix o o:=⟨rfl,rfl,id,λvs e=>⟨vs,e,rfl⟩,λ_=>⟨o.slots,rfl⟩⟩
theorem Fix.trans (y:Fix b k) (x:Fix k o):Fix b o:=⟨y.dict.trans x.dict,y.cls.trans x.cls,fun h=>y.live (x.live h),fun vs e=>by
 obtain⟨v1,a,q⟩:=x.two vs e;obtain⟨v2,s,f⟩:=y.two v1 a;exact⟨v2,s,f.trans q⟩,λn=>by
 obtain⟨m,a⟩:=x.sl n;obtain⟨c,s⟩:=y.sl (by rw[a];exact n);exact⟨c,by rw[s,a]⟩⟩
inductive Kp{α:Type}:Sem α->Prop
 |pure (a:α):Kp (.pure a)
 |raise (e:Value):Kp (.raise e)
 |unsupported (w:String):Kp (.unsupported w)
 |finish (e:Ending):Kp (.finish e)
 |rule {t k}:(∀x,Kp (k x))->Kp (.rule t k)
 |at {p k}:(∀x,Kp (k x))->Kp (.at p k)
 |load {a p k}:(∀x,Kp (k x))->Kp (.load a p k)
 |update {a p f k}:(∀o,Fix (f o) o)->(∀x,Kp (k x))->Kp (.update a p f k)
 |alloc {o k}:(∀x,Kp (k x))->Kp (.alloc o k)
 |loadIfAlive {a k}:(∀x,Kp (k x))->Kp (.loadIfAlive a k)
 |point {l k}:(∀x,Kp (k x))->Kp (.point l k)
 |fresh {k}:(∀x,Kp (k x))->Kp (.fresh k)
 |ask {k}:(∀x,Kp (k x))->Kp (.ask k)
 |handled {o k}:(∀x,Kp (k x))->Kp (.handled o k)
 |stack {k}:(∀x,Kp (k x))->Kp (.stack k)
 |thread {k}:(∀x,Kp (k x))->Kp (.thread k)
variable{α:Type}{t:Sem α}
theorem Kp.bind(h:Kp t)(g:∀a,Kp (f a)):Kp (t >>= f):=by
 show Kp (Sem.bind t f);induction h with
 |pure a=>exact g a
 |raise e=>exact .raise e
 |unsupported w=>exact .unsupported w
 |finish e=>exact .finish e
 |rule _ i=>exact .rule i
 | «at» _ i=>exact .at i
 |load _ i=>exact .load i
 |update q _ i=>exact .update q i
 |alloc _ i=>exact .alloc i
 |loadIfAlive _ i=>exact .loadIfAlive i
 |point _ i=>exact .point i
 |fresh _ i=>exact .fresh i
 |ask _ i=>exact .ask i
 |handled _ i=>exact .handled i
 |stack _ i=>exact .stack i
 |thread _ i=>exact .thread i
def DK(h a:Heap):Prop:=∀b o,h.get? b=some o->∃x,a.get? b=some x/\Fix x o
variable{h:Heap}
theorem DK.refl:DK h h:=λb o e=>⟨o,e,.refl⟩
theorem DK.trans(x:DK h k)(y:DK k c):DK h c:=λb o e=>by obtain⟨m,a,f⟩:=x b o e;obtain⟨r,s,n⟩:=y b m a;exact⟨r,s,n.trans f⟩
theorem DK.push:DK h (h.push o):=λb u e=>⟨u,bM _ e,.refl⟩
theorem DK.up(x:DK h k):h.UpToSlots k:=λb o e n=>by obtain⟨c,a,f⟩:=x b o e;obtain⟨s,q⟩:=f.sl n;exact⟨s,by rw[a,q]⟩
theorem alive(e:h.get? a=some o):o.isFreed=false:=(zZ.mp e).2
theorem DK.upd(q:∀o,Fix (f o) o):DK h (h.update a f):=λb o e=>by
 by_cases x:b=a
 .subst x;exact⟨f o,z0 _ e ((q o).live (alive e)),q o⟩
 .exact⟨o,by rw[qM _ _ (bZ x)];exact e,.refl⟩
theorem Kp.wp(h:Kp t):∀{Q:α->Pos->Shared->Prop}{E:Value->Pos->Shared->Prop}{p:Pos}{s:Shared},Sem.wp M b t Q E p s->Sem.wp M b t (λa k n=>Q a k n/\DK s.heap n.heap) (λe k n=>E e k n/\DK s.heap n.heap) p s:=by
 induction h with
 |pure a=>intro Q E p s x;exact⟨x,.refl⟩
 |raise e=>intro Q E p s x;exact⟨x,.refl⟩
 |unsupported w=>intro Q E p s x;exact x
 |finish e=>intro Q E p s x;exact x
 |rule _ i=>intro Q E p s x;exact i _ x
 | «at» _ i=>intro Q E p s x;exact i _ x
 |load _ i=>intro Q E p s x;obtain⟨o,e,x⟩:=x;exact⟨o,e,i _ x⟩
 |update q _ i=>intro Q E p s x;obtain⟨e,x⟩:=x;refine⟨e,?_⟩;refine Sem.wp_mono _ _ _ (λa k n z=>⟨z.1,(DK.upd q).trans z.2⟩) (λa k n z=>⟨z.1,(DK.upd q).trans z.2⟩) _ _ (i () x)
 |alloc _ i=>intro Q E p s x;exact Sem.wp_mono _ _ _ (λa k n z=>⟨z.1,DK.push.trans z.2⟩) (λa k n z=>⟨z.1,DK.push.trans z.2⟩) _ _ (i _ x)
 |loadIfAlive _ i=>intro Q E p s x;exact i _ x
 |point _ i=>intro Q E p s x;exact i _ x
 |fresh _ i=>intro Q E p s x;exact i _ x
 |ask _ i=>intro Q E p s x;exact i _ x
 |handled _ i=>intro Q E p s x;exact i _ x
 |stack _ i=>intro Q E p s x;exact i _ x
 |thread _ i=>intro Q E p s x;exact i _ x
theorem Kp.wpAny(h:Kp t)(x:xq M A t k E s):xq M A t (λa n=>k a n/\DK s.heap n.heap) (λe n=>E e n/\DK s.heap n.heap) s:=λf p g=>h.wp (x f p g)
theorem mf(h:k≠2)(x:Value)(o:Obj):Fix (Obj.mapFields (·.setIfInBounds k x) o) o:=by
 unfold Obj.mapFields;split
 .exact⟨rfl,rfl,λ_=>rfl,λvs e=>by cases e;exact⟨_,rfl,by rw[Array.getElem?_setIfInBounds_ne h]⟩,λn=>absurd rfl (n _)⟩
 .exact .refl
theorem vg(a:Addr):Kp (PySem.load a):=.load λx=>.pure x
theorem vh(v:Value):Kp (fieldsOf v):=by
 unfold fieldsOf;split
 .refine .bind (vg _) λo=>?_;split
  .exact .pure _
  .exact .unsupported _
 .exact .unsupported _
theorem mW(v:Value)(i:Nat):Kp (field v i):=by
 unfold field;refine .bind (vh v) λvs=>?_
 split
 .exact .pure _
 .exact .unsupported _
theorem j0(v:Value)(h:k≠2)(x:Value):Kp (setField v k x):=by
 unfold setField;split
 .unfold updateField;refine .bind (vg _) λo=>?_
  split
  .split
   .exact .update (mf h _) λx=>.pure x
   .exact .unsupported _
  .exact .unsupported _
 .exact .unsupported _
theorem ja(e:Value)(f:Option Addr):Kp (setFlight e f):=by
 unfold setFlight;refine .bind (mW _ _) λt=>?_
 split
 .exact j0 _ (by decide) _
 .exact .pure _
theorem x':∀l:List Env,Kp (readyFrames l)
 | []=>.pure ()
 |n::u=>by
  unfold readyFrames;split
  .refine .bind (vg _) λo=>?_;split
   .exact .pure _
   .refine .bind ?_ λb=>.bind ?_ λc=>?_
    .unfold behindIsImport;split
     .exact .pure _
     .split
      .exact .pure _
      .exact .bind (mW _ _) λx=>.pure _
    .unfold keptBack;split
     .split
      .exact .pure _
      .exact .bind (.bind (.stack λx=>.pure x) λ_=>.pure _) λ_=>.pure _
     .exact .pure _
    .exact .bind (.update (λo=>⟨rfl,rfl,λh=>by obtain⟨c,d,t,s⟩:=o;cases t<;>first|exact h|rfl,λvs e=>⟨vs,e,rfl⟩,λ_=>⟨_,rfl⟩⟩) λx=>.pure x) λ_=>x' u
  .exact .unsupported _
theorem y9(e:Env):Kp (frameOf e):=by
 unfold frameOf;refine .bind (.bind (.stack λx=>.pure x) λ_=>.pure _) λl=>.bind ?_ λz=>?_
 .unfold frameObject;split
  .exact .pure _
  .exact .bind (x' _) λ_=>.pure _
 .split
  .exact .pure _
  .exact .unsupported _
theorem lz(e:Value)(n:Env):Kp (noteFrame e n):=by
 unfold noteFrame;have t:∀(h:Value)(f:Addr),Kp (do setField e 1 (<- EntryCells.newEntry h (<- frameOf n) .none (rawInt f) .none (<- entryPlaceOf f (h != .none)))):=λh f=>by
  refine .bind (y9 n) λr=>.bind ?_ λp=>.bind ?_ λs=>j0 _ (by decide) _
  .unfold entryPlaceOf;refine .bind (.stack λx=>.pure x) λa=>?_
   split<;>exact .pure _
  .unfold EntryCells.newEntry newFields;generalize List.toArray _=vs;unfold newObj;dsimp only;have w:∀d,Kp (newObjAsIs (.type "traceback") d):=λd=>.bind (.alloc λx=>.pure x) λ_=>.pure _
   split
   .exact .bind (.unsupported _) λ_=>w _
   .exact w _
 split
 .refine .bind (mW _ _) λh=>?_;split
  .refine .bind (mW _ _) λz=>?_;split
   .exact .pure _
   .exact .bind (j0 _ (by decide) _) λ_=>t _ _
  .exact t _ _
 .exact .unsupported _
theorem pi(n:Env)(e:Value):Kp (leaving n e):=.bind (lz e n) λ_=>ja e none
end Kd
set_option tactic.hygienic false
namespace Kx
open PySem PySem.W PySem.Builtin PySem.Builtin.ObjectAttr
noncomputable def rS:LV->Bool
 | .ref _::r=>rS r
 |l=>l == [.type "ValueError",.type "Exception",.type "BaseException",.type "object"]
theorem tG(s:Value):∀{l:LV},rS l=true->refuseLoop s "__setattr__" l=pure ()/\l.contains (.type "object")=true/\l.isEmpty=false:=by
 intro l e;induction l with
 |nil=>cases e
 |cons c r i=>
  by_cases q:∃a,c=.ref a
  .obtain⟨a,rfl⟩:=q;obtain⟨x,n,_⟩:=i e;exact⟨by rw[refuseLoop_ref];exact x,by rw[qH,n,qu],rfl⟩
  .have h:(c::r)=[.type "ValueError",.type "Exception",.type "BaseException",.type "object"]:=by
    cases c with
    |ref a=>exact absurd ⟨a,rfl⟩ q
    |_=>exact eq_of_beq e
   rw[h];exact⟨PySem.F.store_ValueError.passes s,by decide +kernel,rfl⟩
section
variable{Pg:Program}{w:World}{A:Around}{Ex:VP}{u:Shared}{K:Frag}{x C:Addr}{R:Result->Shared->Prop}{m:Str}{v:Value}{tk:Tok}
theorem yQ(X:K.In u.heap)(i:u.heap.get? x=some N)(l:N.cls=.ref C)(Q:notCls N=true)(M:N.dict=none)(B:clsIn K C=some cd)(g:cd.hasDict=true)(ho:rS cd.mro=true)
  (hs:findIn K (.ref C) "__setattr__"=some (some (.builtin "object.__setattr__"))) (ha:findIn K (.ref C) m=some none)
  (h:∀H I,H.get? x=some { N with dict:=some u.heap.objs.size }->H.Ns1 u.heap.objs.size (λy=>if y=m then some v else none)->(∀b o,b≠x->u.heap.get? b=some o->H.get? b=some o)->k () { u with heap:=H,toks:=I }) :
  wpAny (model Pg w) A (setAttr (.ref x) m v) k Ex u:=by
 obtain⟨c0,d0,p,E⟩:=N;dsimp only at l M;subst l M;have Lm:InstAt u.heap x ⟨.ref C,none,p,E⟩ C none:=⟨i,rfl,Q,trivial⟩;have G:=PySem.F.store_object;obtain⟨p1,p2,p3⟩:=tG (.ref x) ho;have mo:Looks (model Pg w) u.heap (mroOf (.ref C)) cd.mro:=(uy X B).andThen .now;refine zH X Lm hs (pP G.slot.plain G.entry (@check_slot (model Pg w) _ _ { u with toks:=u.toks+1 } "object.__setattr__" "object" "__setattr__" (.ref x) [.str m u.toks,v] [] _ G.kind G.split
  (Lm.type.andThen (pS X (by unfold mroIn;rw[B,eK,ar (by rw[p3];decide),p2]))) (G.args (.ref x) (.str m u.toks) v) ?_))
 rw [osa_eq,refuse_eq];refine ae (ae (Lm.type.here (s:={ u with toks:=u.toks+1 }) (ae (mm (s:={ u with toks:=u.toks+1 }) mo ?_))));rw [p1];refine aJ (ae (Lm.type.here (s:={ u with toks:=u.toks+1 }) (ae (mm (s:={ u with toks:=u.toks+1 }) (jT X ha) (ae (aJ ?_))))));have R:(u.heap.push { cls:=.type "dict",data:=.dict #[] }).get? x=some ⟨.ref C,none,p,E⟩:=bM _ i;have T:x≠u.heap.objs.size:=bO (bg i);refine ae (aJ (ae (ae (xc i (ae (mm (s:={ u with toks:=u.toks+1 }) (uy X B) ?_))))));rw [g];have j:=(zZ.mp i).2;have z:wpAny (model Pg w) A.in1 (do
   let d <- alloc { cls:=Value.type "dict",data:=Data.dict #[] }
   update x λo=>{ cls:=o.cls,dict:=some d,data:=o.data,slots:=o.slots }
   dictMade (Value.ref C) x d) (fun a n=>wpAny (model Pg w) A.in1 (match a with
     |some d=>storeInDict d (Value.str m u.toks) m v
     |none=>noDictFor (Value.ref x) (Value.ref C) m false) (λF n=>match F with
      |Fin.done f=>match (Except.ok f:Result) with
       |Except.ok (Flow.ret v)=>k () n
       |Except.ok a=>False
       |Except.error e=>Ex e n
      | Fin.again L=>L.quiet=true/\codeAny (model Pg w) A L (fun r n=>match r with
        |Except.ok (Flow.ret v)=>k () n
        |Except.ok a=>False
        |Except.error e=>Ex e n) n) (λe n=>Ex e n) n) (λe n=>Ex e n) { u with toks:=u.toks+1 }:=by
  refine ae (wpAny_alloc' (ae (wpAny_update' R (ae (aJ (aJ ?_))))));generalize D:(u.heap.push { cls:=Value.type "dict",data:=Data.dict #[] }).update x (λo=>{ cls:=o.cls,dict:=some u.heap.objs.size,data:=o.data,slots:=o.slots })=q;have V:q.get? u.heap.objs.size=some { cls:=.type "dict",data:=.dict #[] }:=by rw[<- D,qM _ _ T];exact eF _ rfl
  have W:q.get? x=some ⟨.ref C,some u.heap.objs.size,p,E⟩:=by rw[<- D];exact z0 _ R (by cases p<;>first|rfl|exact j)
  have Z:∀b o,b≠x->u.heap.get? b=some o->q.get? b=some o:=λb o P e=>by rw[<- D,qM _ _ (bZ P)];exact bM _ e
  have S:q.Ns u.heap.objs.size (λ_=>none):=⟨_,#[],_,V,rfl,λe he=>absurd he (by simp),λ_=>rfl⟩;show wpAny _ _ (storeInDict u.heap.objs.size (.str m u.toks) m v) _ _ { u with heap:=q,toks:=u.toks+1 }
  delta storeInDict newKeyGuard
  refine ae (aJ (ae (wpAny_nsSet1 (Heap.Ns1.of_empty S) λh3 t same=>?_)));obtain⟨oD,esD,epD,q1,q2,q3⟩:=t.count (Within.cons m v Within.nil);refine ae (xl q1 (by rw[q2];exact xf (bN q3 (by rw[aS,dh,kl];lia))) ?_);exact aJ (h h3 _ ((same.2 x T).trans W) t λb o P e=>(same.2 b (bO (bg e))).trans (Z b o P e))
 cases p with
 |cls c=>cases Q
 |_=>exact z
theorem zi(s:findIn K (.ref C) "__getattribute__"=some (some (.builtin "BaseException.__getattribute__")))(h:findIn K (.ref C) "__getattr__"=some none)(a:mroIn K C (.type "BaseException")=some true)
  (i:K.In u.heap) (I:InstAt u.heap x N C (some od)) (H:findObj K C (some od) m=some (.value v)) (S:handedIn v=true) (z:k v { u with toks:=u.toks+1 }):wpAny (model Pg w) A (getAttr (.ref x) m c) k Ex u:=by
 have T:Looks (model Pg w) u.heap (typeOf (.ref x)) (.ref C):=I.type;have f:=pS (M:=model Pg w) i a;have b:=jT (M:=model Pg w) i s;have n:=jT (M:=model Pg w) i h;have j:=looks_find (M:=model Pg w) i I H;have q:∀B:Around,∀tk:Tok,∀y:Shared,y.heap=u.heap->codeAny (model Pg w) B (.call (.builtin "BaseException.__getattribute__") ⟨[.ref x,.str m tk],[]⟩) (λr G=>r=.ok (.ret v)/\G=y) y:=λB tk y F=>by
  obtain⟨p,g,d,t,os⟩:=y;cases (show p=u.heap from F);have P:builtinKind "BaseException.__getattribute__"=some .slot:=by decide +kernel
  have E:splitId "BaseException.__getattribute__"=some ("BaseException","__getattribute__"):=by decide +kernel
  refine pP (by decide +kernel) vX ?_;have l:=vW (.ref x) (.str m tk);simp only[checkBuiltinCall,P,E,isInstance];refine ae (ae (T.at (f.at ?_)));simp only[wg,fj,gW];refine wpAny_of_eq l ?_;refine ae (aJ (ae (aJ (ae (T.at (ae (j.at ?_)))))));exact aJ ⟨rfl,rfl⟩
 obtain⟨p,g,d,t,os⟩:=u;simp only[getAttr,getAttrBy];refine ae (wpAny_mkText (gJ (ae (T.at (ae (b.at ?_))))));have o:(onTheHeap (Value.ref C) && Value.builtin "BaseException.__getattribute__" == Value.builtin "object.__getattribute__")=false:=by rw[show(Value.builtin "BaseException.__getattribute__" == Value.builtin "object.__getattribute__")=false by decide +kernel];rfl
 simp only[o,getAttrByItsOwn,hookBefore,fj,gW];refine ae (wpAny_ite ?_);rw[ai (show onTheHeap (Value.ref C)=true from rfl)];refine n.at (ae (qZ (gJ ?_)));have bound:=wd.ga.bind (.ref x);have D:(c && onTheHeap (Value.builtin "BaseException.__getattribute__"))=false:=by cases c<;>rfl
 simp only[callGetattribute,boundAndCalled,D,fj,gW,bound];refine ae (aJ (hI (hJ (q A t ⟨p,g,d,t+1,os⟩ rfl) λr y e=>?_)));obtain⟨rfl,rfl⟩:=e;exact zG S z
end
open PySem PySem.W
noncomputable abbrev Er:LV:=[.type "ValueError",.type "Exception",.type "BaseException",.type "object"]
def XO(o:Obj)(C N:Addr)(t:LV):Prop:=∃m q bs h f sub a c d k x e s n,o=excClassObj m q C N bs t h f sub a c d k x e s n "ValueError.__new__"
structure XH(h:Heap)(C N fI:Addr)(tl:LV)(mp:SV)(o oI:Obj):Prop where
 shape:XO o C N tl
 lies:h.get? C=some o
 under:OwnTail h Er tl
 names:h.Ns N mp
 init:mp "__init__"=some (.ref fI)
 code:h.get? fI=some oI
 fn:oI.cls=.type "function"
theorem y6(q:XH u.heap C N fI tl mp o oI)(hz:vs.length≤sizeLine)
  (go:∀h' e,uI u.heap h' e (.ref C) vs->wpAny (model Pg w) A (call (.ref fI) (.ref e::vs)) (λr u'=>r=.none/\R (.done (.ret (.ref e))) u') Ex { u with heap:=h' }) :
  wpAny (model Pg w) A (Builtin.«type.__call__» ⟨.ref C::vs,[]⟩) R Ex u:=by
 obtain⟨h,gs,dr,tk,os⟩:=u;obtain⟨⟨nm,qn,bs,hd,sn,sub,ab,col,dd,k0,k1,k2,k3,k5,rfl⟩,lies,under,names,init,code,fn⟩:=q;have F:=wc;repeat (first|with_reducible refine m7 lies ?_|with_reducible refine wpAny_madeBy_exc lies ?_|wp_step)
 refine codeAny_call_builtin_code (qo _ F.quiet) (wpAny_check_new_subT F under lies (codeAny_exc_new_subT F under lies ?_ hz));show wpAny _ _ _ _ _ _;generalize hg:(h.push { cls:=.type "tuple",data:=.seq vs.toArray }).push { cls:=.ref C,data:=.fields #[.ref h.objs.size,.none,.none,.none,.bool false,.none] }=h2;have kp:∀b x,h.get? b=some x->h2.get? b=some x:=λb x e=>by rw[<- hg];exact bM _ (bM _ e)
 have new:h2.get? (h.objs.size+1)=some { cls:=.ref C,data:=.fields #[.ref h.objs.size,.none,.none,.none,.bool false,.none] }:=by rw[<- hg];heap_get
 have tup:h2.get? h.objs.size=some { cls:=.type "tuple",data:=.seq vs.toArray }:=by rw[<- hg];exact bM _ (Heap.get?_push_at rfl rfl)
 have l2:=kp _ _ lies;have self:(Value.ref C::tl).contains (.ref C)=true:=by simp
 unfold isInstance;repeat (first|with_reducible refine m7 new ?_|(with_reducible refine xw l2 ?_;rw[self])|wp_step)
 show wpAny _ _ (typeLookup _ _) _ _ _;refine wpAny_typeLookup_tail l2 (names.keeps kp) (under.keeps kp) F.mroIs F.init.lookup ?_;rw[init];refine gJ (ae ?_);unfold bindSpecial;refine ae (mP (T:="function") ⟨_,kp _ _ code,fn⟩ ?_);rw[ai (by decide)];refine aJ (ae (bm (go h2 (h.objs.size+1) ⟨kp,uK (qO _),h.objs.size,new,uK (aw _),tup⟩) (λr u' hr=>?_) λ_ _ x=>x));obtain⟨rfl,hQ⟩:=hr
 wp_walk
 exact hQ
end Kx
namespace PySem
end PySem
set_option tactic.hygienic true
namespace Kx
open PySem PySem.W
theorem zj(plain:(backTo c (starEach k b)).any (·.1)=false)
  (h:wpAny (model Pg w) A (eval (.Name x np) b) (fun f p=>f=.ref C/\wpAny (model Pg w) A (evalArgs (.ref C) true (backTo c (starEach k b)) []) (fun a s=>a.kw=[]/\a.pos.length≤sizeLine/\XH s.heap C N fI tl mp o oI /\
   ∀n e,uI s.heap n e (.ref C) a.pos->wpAny (model Pg w) (A.under (.builtin "type.__call__" ⟨.ref C::a.pos,[]⟩)) (call (.ref fI) (.ref e::a.pos)) (λr t=>r=.none/\R (.ref e) t) Ex { s with heap:=n }) Ex p) Ex u) :
  wpAny (model Pg w) A (eval (.Call (.Name x np) k [] c) b) R Ex u:=by
 refine wpAny_Call_ofName (bm h (λf p z=>?_) λ_ _ x=>x);obtain⟨rfl,z⟩:=z;unfold callWith;refine ae (gJ (bm z (λa s F=>ae (mZ ?_)) λ_ _ x=>x));obtain⟨vs,H⟩:=a;obtain⟨rfl,y,q,g⟩:=(show H=[]/\_ from F);have S:=q;obtain⟨⟨V,W,bs,E,X,sub,K,v,P,G,I,L,M,Q,rfl⟩,l,_⟩:=q;obtain⟨j,i,d,tk,os⟩:=s;simp only[plain];refine ae (wpAny_keeperOf_exc l (ae ?_));have B:=tc_lookup;have D:=tc_bind (.ref C);have T:(⟨j,i,d,tk,os⟩:Shared).TypeIs (.ref C) "type":=⟨_,l,rfl⟩;refine hI (codeAny_of_tree ?_);show wpAny _ _ (callAny (.ref C) ⟨[]++vs,[]⟩) _ _ _;repeat (any_goals (first|assumption|with_reducible refine m7 l ?_|wp_step))
 refine⟨rfl,codeAny_call_builtin_at (qo _ (by decide +kernel)) entry_typeCall (wpAny_check_type_call_sub l (y6 S y λn e m=>bm (g n e m) (λr t z=>⟨z.1,?_⟩) λ_ _ z=>z))⟩;exact ae (gJ (wpAny_point (aJ z.2)))
end Kx
namespace PySem
end PySem
namespace Kx
open PySem PySem.W
theorem uZ(o:XO q C N k)(a:k.contains (.type "BaseException")=true)(f:A.handled=none)
  (h:wpAny (model Pg w) A x (fun v u=>∃b t d s,v=.ref b/\u.heap.get? C=some q /\
   u.heap.get? b=some { cls:=.ref C,dict:=d,data:=.fields #[.ref t,.none,.none,.none,.bool false,.none],slots:=s }/\Ex (.ref b) u) Ex u) :
  wpAny (model Pg w) A (raiseStmt r (some x) none) R Ex u:=by
 obtain⟨E,G,bs,H,I,sub,p,c,i,F,K,P,B,D,rfl⟩:=o;have under:(Value.ref C::k).contains (.type "BaseException")=true:=by rw[qH,a,qu]
 unfold raiseStmt;refine ae (bm h (λv m z=>?_) λ_ _ x=>x);obtain⟨b,t,d,s,rfl,e,n,g⟩:=z;obtain⟨S,y,j,tk,os⟩:=m;refine ae (aJ ?_);have l:({ cls:=.ref C,dict:=d,data:=.fields #[.ref t,.none,.none,.none,.bool false,.none],slots:=s }:Obj).isFreed=false:=rfl;repeat (first|with_reducible refine m7 n ?_|with_reducible refine m7 e ?_|(with_reducible refine xw e ?_;rw[under])|wp_step)
 exact wpAny_raiseNew_none f g
end Kx
namespace Ev
open PySem PySem.Spec PyProof.Rows L2
def Iy(a:Addr)(od:Option Addr)(h:Heap):Prop:=∃o vs,h.get? a=some o/\o.dict=od/\o.data=.fields vs/\(od=none->vs[2]? = some .none)
theorem Iy.dk(x:Iy a od h)(k:Kd.DK h b):Iy a od b:=by obtain⟨o,vs,e,d,t,c⟩:=x;obtain⟨n,s,f⟩:=k a o e;obtain⟨v,m,q⟩:=f.two vs t;exact⟨n,v,s,f.dict.trans d,m,λz=>q.trans (c z)⟩
def ux(Pg:Program)(w:World):zC:=λt H s E e h=>∃(a:Addr)(c n:Value)(x:Hp)(B:Heap)(od:Option Addr),e=.ref a/\h.os=s.os/\AllBare h.gens/\Un (iV t) [] H x s.heap h.heap/\iP Pg w x h.heap/\x a=none /\
 (∀b o,s.heap.get? b=some o->b ∉ iV t->∃k,B.get? b=some k)/\(∀b o,s.heap.get? b=some o->H b=none->b ∉ iV t->B.get? b=some o)/\(∀b u o,x b=some u->h.heap.get? b=some o->B.get? b=some o) /\
 nl B t a c n h.heap/\Iy a od h.heap/\E c od x
section
variable{X:Cx}{j:PN}{J:L2.St}{H:Hp}{s:Shared}
structure Leaves(X:Cx)(E:XK):Prop where
 ex:X.ex=[]
 stk:X.k=X.e::X.o
 frm:X.e.frame=some X.e.locals
 xe:X.xe=λe s'=>wx X (leaving X.e e) (λ_ s''=>ux X.p X.w X.o X.y X.z E e s'') (λe' s''=>ux X.p X.w X.o X.y X.z E e' s'') s'
theorem Leaves.mem(l:Leaves X E)(b:Addr):b ∈ iV X.k↔b=X.e.locals\/b ∈ X.fs:=by rw[l.stk];unfold iV;rw[mI,l.frm];exact av
theorem Leaves.old(l:Leaves X E)(I:Inv X j J H s)(e:X.z.heap.get? b=some o)(n:b ∉ X.fs):b ∉ iV X.k:=λz=>by
 rcases(l.mem b).mp z with rfl|z
 .exact absurd (bg e) (qN.mpr I.o.above)
 .exact n z
theorem Aj{B:Heap}(I:Inv X j J H s)(l:Leaves X E)(u:Un (iV X.k) [] H N s.heap h1)(w:X.z.heap.get? x=none)(F:∀b o,b≠x->s.heap.get? b=some o->b ∉ iV X.k->∃i,B.get? b=some i)(K:∀b o,b≠x->s.heap.get? b=some o->H b=none->b ∉ iV X.k->B.get? b=some o)
  (G:B.StaysIn r) (t:h1.UpToSlots r):Un (iV X.o) [] X.y N X.z.heap r:=by
 have a:Un X.fs [] X.y H X.z.heap s.heap:=by have:=I.base;rw[l.ex]at this;exact this
 have g:∀b o,X.z.heap.get? b=some o->X.y b=none->b ∈ X.fs->∃t,r.get? b=some { o with slots:=t }:=λb o e n h=>by
  obtain⟨p,k⟩:=a.slot b o e n h (by simp);have D:=a.free b o e n (by simp);obtain⟨Q,f⟩:=u.slot b _ k D ((l.mem b).mpr (.inr h)) (by simp);have L:∀vs,o.data≠.fields vs:=λvs z=>by obtain⟨_,i,c,d⟩:=I.o.funs.mem h;rw[e]at c;cases c;exact d vs z
  obtain⟨q,P⟩:=t b _ f L;exact⟨q,P⟩
 refine⟨λb o e n h _=>?_,λb o e n h _=>g b o e n h,λb o e n R=>?_,λb o e _=>?_,λb S e=>u.tups b S (a.tups b S e),λb o v e=>u.frzs b o v (a.frzs b o v e),λb M e=>?_⟩
 .exact G b o (K b o (λz=>by rw[z,w]at e;cases e) (a.keep b o e n h (by simp)) (a.free b o e n (by simp)) (l.old I e h))
 .obtain⟨m,k⟩:=a.there b o e (by simp);exact u.free b m k (a.free b o e n (by simp)) (by simp)
 .by_cases h:b ∈ X.fs
  .obtain⟨p,k⟩:=g b o e (I.o.frf b h) h;exact⟨_,k⟩
  .obtain⟨m,k⟩:=a.there b o e (by simp);obtain⟨y,f⟩:=F b m (λz=>by rw[z,w]at e;cases e) k (l.old I e h);exact⟨y,G b y f⟩
 .obtain⟨A,k⟩:=a.tbls b M e;obtain⟨C,f⟩:=u.tbls b _ k;exact⟨A++C,by rw[f,ww]⟩
theorem t6{B:Heap}(a:iP X.p X.w k r)(x:∀b u o,k b=some u->r.get? b=some o->B.get? b=some o)(G:B.StaysIn l):iP X.p X.w k l:=λb u e=>
 (a b u e).stay (fun c v h q=>G c v (by
  rcases h with rfl|h
  .exact x _ u v e q
  .exact x c _ v h q)) (λ_ q=>q) λ_ _ q=>q
theorem K2{E:XK}{h:Hp}{B P m A:Heap}{d:Shared}{a x:Addr}{c i:Value}{od:Option Addr}(l:Leaves X E)(I:Inv X j J H s)(u:Un (iV X.k) [] H h s.heap P)(t:X.z.heap.get? x=none)(y:∀b o,b≠x->s.heap.get? b=some o->b ∉ iV X.k->∃G,B.get? b=some G)(S:∀b o,b≠x->s.heap.get? b=some o->H b=none->b ∉ iV X.k->B.get? b=some o)
  (k:iP X.p X.w h A) (F:∀b u o,h b=some u->A.get? b=some o->B.get? b=some o) (D:h a=none) (L:P.UpToSlots m) (f:nl B X.o a c i m) (M:Iy a od m) (os:d.os=s.os) (C:AllBare d.gens) (q:E c od h):ux X.p X.w X.o X.y X.z E (.ref a) { d with heap:=m }:=by
 have g:Un X.fs [] X.y H X.z.heap s.heap:=by have:=I.base;rw[l.ex]at this;exact this
 refine⟨a,c,i,h,B,od,rfl,os.trans I.os,C,Aj I l u t y S f.1 L,t6 k F f.1,D,λb o z n=>?_,λb o z e n=>?_,λb v o z e=>?_,f,M,q⟩
 .obtain⟨r,p⟩:=g.there b o z (by simp);exact y b r (λw=>by rw[w,t]at z;cases z) p (l.old I z n)
 .exact S b o (λw=>by rw[w,t]at z;cases z) (g.keep b o z e n (by simp)) (g.free b o z e (by simp)) (l.old I z n)
 .obtain⟨r,p⟩:=Bd (k b v z);have K:=F b v r z p;rw[f.1 b r K]at e;cases e;exact K
theorem Ep(h:Heap):h.get? h.objs.size=none:=by
 cases e:h.get? h.objs.size with
 |none=>rfl
 |some o=>exact absurd (bg e) (gw _)
theorem Bs(l:Leaves X E)(I:Inv X j J H s)(y:ux X.p X.w X.k H s E' e N)(q:∀c od x,E' c od x->E c od x):X.xe e N:=by
 rw[l.xe];obtain⟨a,c,v,x,B,od,rfl,os,r,un,k,i,d,w,u,t,F,S⟩:=y;have n:X.A.frames=some (X.e::X.o):=by rw[<- l.stk];exact I.o.frames
 rw[l.stk]at t;refine bm ((Kd.pi X.e (.ref a)).wpAny (wpAny_leaves_onW (Q:=λ_ p=>∃h,nl B X.o a c v h/\N.heap.UpToSlots h/\p={ N with heap:=h }) n l.frm t λh f m=>⟨h,f,m,rfl⟩)) (λ_ p z=>?_) λ_ _ z=>z.1;obtain⟨⟨h,f,m,rfl⟩,g⟩:=z;exact K2 l I un (Ep _) (λb o _=>d b o) (λb o _=>w b o) k u i m f (F.dk g) os r (q c od x S)
end
noncomputable abbrev i5(X:Cx)(e:Value):Cx:={ X with A:=X.A.mark (some e),c:=false,xe:=λ_ _=>False }
section
variable{X:Cx}{j:PN}{J:L2.St}{H:Hp}{s:Shared}
theorem o7(I:Inv X j J H s)(e:Value):Inv (i5 X e) j J H s:=
 ⟨⟨I.o.mod,I.o.kind,I.o.glob,I.o.blt,I.o.above,I.o.inj,I.o.has,I.o.cab,(λz=>nomatch z),I.o.frames,I.o.stk,I.o.exf,I.o.bs,I.o.bsz,I.o.noex,I.o.exfs,I.o.funs,I.o.frf⟩,I.os,I.bare,I.base,I.loc,I.cell,I.free,I.freeC,I.pin,I.h,I.len⟩
theorem uX(ok:X.Ok)(I:Inv (i5 X e) j J H s):Inv X j J H s:=⟨ok,I.os,I.bare,I.base,I.loc,I.cell,I.free,I.freeC,I.pin,I.h,I.len⟩
theorem DD{B:Heap}(u:Un z [] H r k l)(q:∀b ∈ z,H b=none/\∃o,k.get? b=some o/\∀vs,o.data≠.fields vs)(t:∀b o,k.get? b=some o->b ∉ z->∃d,B.get? b=some d)(p:∀b o,k.get? b=some o->H b=none->b ∉ z->B.get? b=some o)
  (G:B.StaysIn c) (s:l.UpToSlots c):Un z [] H r k c:=by
 have f:∀b o,k.get? b=some o->b ∈ z->∃s,c.get? b=some { o with slots:=s }:=λb o e h=>by obtain⟨n,i,x,v⟩:=q b h;rw[e]at x;cases x;obtain⟨w,x⟩:=u.slot b o e n h (by simp);obtain⟨g,a⟩:=s b _ x v;exact⟨g,a⟩
 refine⟨λb o e n h _=>G b o (p b o e n h),λb o e n h _=>f b o e h,u.free,λb o e _=>?_,u.tups,u.frzs,u.tbls⟩;by_cases h:b ∈ z
 .obtain⟨w,x⟩:=f b o e h;exact⟨_,x⟩
 .obtain⟨m,a⟩:=t b o e h;exact⟨m,G b m a⟩
theorem lg(I:Inv X j J H s)(i:X.z.heap.get? a=none)(l:H a=none)(L:a≠X.e.locals)(C:∀x c,X.e.cells.lookup x=some c->c≠a)(y:∀p ∈ X.pn++j,p.1≠a)(w:cj X.p X.w (upd H a u) s.heap a u):Inv X j J (upd H a u) s:=by
 have h:∀b v,H b=some v->b≠a:=λb v e z=>by rw[z,l]at e;cases e
 refine⟨I.o,I.os,I.bare,⟨I.base.keep,I.base.slot,λb o e n S=>?_,I.base.there,λb d e=>?_,λb o v e=>?_,λb F e=>?_⟩,I.loc,I.cell,?_,λx c e=>?_,λp t=>?_,λb v e=>?_,I.len⟩
 .rw [aM (λz=>by rw[z,i]at e;cases e)];exact I.base.free b o e n S
 .have:=I.base.tups b d e;rw[aM (h _ _ this)];exact this
 .have:=I.base.frzs b o v e;rw[aM (h _ _ this)];exact this
 .obtain⟨m,k⟩:=I.base.tbls b F e;exact⟨m,by rw[aM (h _ _ k)];exact k⟩
 .rw [aM (bZ L)];exact I.free
 .rw [aM (C x c e)];exact I.freeC x c e
 .obtain⟨k,g,r⟩:=I.pin p t;exact⟨k,by rw[aM (y p t)];exact g,r⟩
 .by_cases f:b=a
  .subst f;rw[aX]at e;cases e;exact w
  .rw [aM f]at e;exact(I.h b v e).stay (λ_ _ _ q=>q) (λc q=>by rw[aM (h _ _ q)];exact q) λc d q=>by rw[aM (h _ _ q)];exact q
theorem BL{R:Nat}(I:Inv X j J H s)(C:X.N.Nodup)(A:X.N[l]? = some n)(D:∀(h:Nat) (x:Str) (w:V),X.N[h]? = some x->J[h]? = some (some w)->CA X.e.scope x->∃u,RelV w u/\Look X.e s.heap N x u)
  (P:h'.Ns X.e.locals (λx=>if x=n then v else N x)) (a:iX X.e.locals s.heap h'):Inv X j (J.set l none) H { s with heap:=h',toks:=R }:=by
 have L:∀b o,X.z.heap.get? b=some o->b≠X.e.locals:=λb o e=>bO (bG (bg e) I.o.above);have F:l < J.length:=by rw[I.len];exact(bt.mp A).1
 refine⟨I.o,I.os,I.bare,⟨λb o e n S m=>(a.2 b (L b o e)).trans (I.base.keep b o e n S m),λb o e n S m=>?_,I.base.free,λb o e m=>?_,I.base.tups,I.base.frzs,I.base.tbls⟩,⟨_,P,λh y w f t B=>?_⟩,λy c e=>?_,I.free,I.freeC,λp E=>?_,λb w e=>?_,by simpa using I.len⟩
 .obtain⟨Q,f⟩:=I.base.slot b o e n S m;exact⟨Q,(a.2 b (L b o e)).trans f⟩
 .obtain⟨M,f⟩:=I.base.there b o e m;exact⟨M,(a.2 b (L b o e)).trans f⟩
 .by_cases K:h=l
  .subst K;rw[dm F]at t;cases t
  .rw [cr (bZ K)]at t;obtain⟨u,r,q⟩:=D h y w f t B;refine⟨u,r,?_⟩;rcases q with ⟨k,e⟩|⟨k,c,e,z⟩
   .exact .inl ⟨k,by have i:¬y=n:=λz=>K (nU C f (by rw[z];exact A));show(if y=n then v else N y)=some u;rw[ar i];exact e⟩
   .exact .inr ⟨k,c,e,z.sameBut a (I.cne y c e)⟩
 .obtain⟨T,z⟩:=I.cell y c e;exact⟨T,z.sameBut a (I.cne y c e)⟩
 .obtain⟨e,n,i,G,d⟩:=I.pin p E;exact⟨(a.2 p.1 i).trans e,n,i,G,d⟩
 .refine (I.h b w e).stay (λc z g q=>(a.2 c ?_).trans q) (λ_ q=>q) λ_ _ q=>q;rintro rfl;rcases g with rfl|g
  .rw [I.free]at e;cases e
  .rw [I.free]at g;cases g
theorem Bw{n:Hp}{B x:Heap}{h:Shared}(I:Inv X j J H s)(os:h.os=s.os)(a:AllBare h.gens)(un:Un (iV X.k) [] H n s.heap h.heap)(k:iP X.p X.w n h.heap)(c:∀b o,s.heap.get? b=some o->b ∉ iV X.k->∃t,B.get? b=some t)(f:∀b o,s.heap.get? b=some o->H b=none->b ∉ iV X.k->B.get? b=some o)
  (m:∀b u o,n b=some u->h.heap.get? b=some o->B.get? b=some o) (G:B.StaysIn x) (l:h.heap.UpToSlots x):Inv X j J n { h with heap:=x }:=by
 have r:∀b ∈ iV X.k,H b=none/\∃o,s.heap.get? b=some o/\∀vs,o.data≠.fields vs:=λb e=>⟨I.stkFree b e,(I.stack.mem e).2⟩;exact I.call' (s':={ h with heap:=x }) (i:=[]) os (DD un r c f G l) (t6 k m G) a λ_ z=>nomatch z
theorem vD{E':XK}{e:Value}{N:Shared}{c:Str}{nm:Option Str}{C2:Addr}{Q:List Stmt}{np g:Pos}{cu:List ExceptHandler}{h:Flow->Shared->Prop}(S:X.k=X.e::X.o)(Z:X.e.frame=some X.e.locals)(ex:X.ex=[])(I:Inv X j J H s)(hx:ux X.p X.w X.k H s E' e N)
  (gl:Gl X c) (mgc:X.g c=some (.ref C2)) (hdb:(c == ("__debug__":Str))=false)
  (k:∀(a:Addr) (d:Value) (od:Option Addr) (V:Hp),e=.ref a->E' d od V->V a=none->∃C,d=.ref C/\kU X.K d (.ref C2)=some true/\∀s5:Shared,(∀{R:Shared->Prop}{Ex:VP},(∀s7,Inv X j J (upd V a (.ext (fO a C od))) s7->R s7)->wpAny (model X.p X.w) (X.A.mark (some e)) (setFlight e none) (fun _ s7=>R s7) Ex s5) ->
   codeAny (model X.p X.w) (X.A.mark (some e)) (.handlers e [.ExceptHandler none nm Q g] X.e) (fun r b=>match r with
    | .ok f=>(match nm with|none=>h f b|some n=>wx X (do bindName X.e n .none;unbindBehindTheSuite X.e n g) (λ_ s3=>h f s3) X.xe b)
    | .error x=>cameBackBy (model X.p X.w) X.A X.e X.xe x b) s5) :
  wx X (noteFrame e X.e) (λ_ b=>wx X (setFlight e none) (λ_ s3=>wx X (handleBy e X.e (.ExceptHandler (some (.Name c np)) nm Q g::cu)) h X.xe s3) X.xe b) X.xe N:=by
 obtain⟨a,d,a0,V,B,od,rfl,os,W,un,hok,hn,c0,c1,c2,fl,sx,qe⟩:=hx;obtain⟨C,rfl,exm,go⟩:=k a d od V rfl qe hn;have J9:=λh1 G sl=>Bw (x:=h1) I os W un hok c0 c1 c2 G sl;have hfr:X.A.frames=some (X.e::X.o):=by rw[<- S];exact I.o.frames
 rw[S]at fl;refine bm ((Kd.lz (.ref a) X.e).wpAny (wpAny_looks_onW (Q:=λ_ b=>∃P,Heap.HeldW B (X.e::X.o) a (.ref C) a0 X.e.locals P/\N.heap.UpToSlots P/\b={ N with heap:=P }) hfr Z fl λP l D=>⟨P,l,D,rfl⟩)) (λ_ b z=>?_) λ_ _ z=>z.1;obtain⟨⟨P,l,D,rfl⟩,dk4⟩:=z;refine bm ((Kd.ja (.ref a) none).wpAny (wpAny_landsW (Q:=λ_ b=>∃i,nl B (X.e::X.o) a (.ref C) a0 i/\P.UpToSlots i/\b={ N with heap:=i }) l λi w t=>⟨i,w,t,rfl⟩)) (λ_ b z=>?_) λ_ _ z=>z.1;obtain⟨⟨i,w,t,rfl⟩,dk5⟩:=z;have sx5:=(sx.dk dk4).dk dk5;have t:=D.trans t;have I5:=J9 i w.1 t;refine wpAny_handleBy_cons (codeAny_handlers_test (jw (o7 I5 (.ref a)) gl mgc ?_ hdb)) (by intro z;cases z);obtain⟨ob,hob,hobc⟩:=w.there;have LT:zJ (model X.p X.w) i (typeOf (.ref a)) (.ref C):=by rw[<- hobc];exact(wf hob).andThen .now
 refine(PySem.W.exm_one (M:=model X.p X.w) I5.kIn LT exm).here ?_;rw[ai rfl];refine go _ λk7=>bm ((Kd.ja (.ref a) none).wpAny (lands_againW (Q:=λ_ b=>∃A,nl B (X.e::X.o) a (.ref C) a0 A/\i.UpToSlots A/\b={ N with heap:=A }) w λA m E=>⟨A,m,E,rfl⟩)) (λ_ b z=>?_) λ_ _ z=>z.1;obtain⟨⟨A,m,E,rfl⟩,dk6⟩:=z;obtain⟨ox,vx,y,hdx,htx,hcx⟩:=sx5.dk dk6;have I6:=J9 A m.1 (t.trans E);obtain⟨oe,vs,T,oT,tvs,L,⟨hcls,_⟩,hd,_⟩:=m.2.2.2;have F:a ∉ iV X.k:=λz=>by rw[S]at z;obtain⟨_,o,ho,nf⟩:=m.2.2.1.mem z;rw[L]at ho;cases ho;exact nf vs hd
 have K:s.heap.get? a=none:=by
  cases q:s.heap.get? a with
  |none=>rfl
  |some o=>obtain⟨o',z⟩:=c0 a o q F;rw[m.2.1]at z;cases z
 have not0:X.z.heap.get? a=none:=by
  cases q:X.z.heap.get? a with
  |none=>rfl
  |some o=>obtain⟨o',z⟩:=I.base.there a o q (by rw[ex];simp);rw[K]at z;cases z
 have I7:=lg (u:=.ext (fO a C od)) I6 not0 hn (fun z=>F (by rw [S,z];exact js.mpr ⟨X.e,.head _,Z⟩)) (fun x c' q z=>by
   obtain⟨v,o,ho,hv⟩:=I6.cell x c' q;rw[z,L]at ho;cases ho;rw[hd]at hv;cases hv) (λp hp z=>by
   have:=(I.pin p hp).1;rw[z,K]at this;cases this) ⟨⟨oe,L,hcls,by rw[L]at y;cases y;exact hdx,by rw[L]at y;cases y;exact⟨vx,htx,hcx⟩⟩,⟨oe,L⟩,λh1 h2 ⟨o,q1,q2⟩ G=>⟨o,G o q1,q2⟩⟩
 exact k7 _ I7
theorem Cd{N:XK}{e:Value}{W:Shared}{c n:Str}{M:Addr}{i:Nat}{Q:Stmt}{d:List Stmt}{np o:Pos}{cu:List ExceptHandler}{D:Ends}{ts:Value->TS}(L:X.k=X.e::X.o)(P:X.e.frame=some X.e.locals)(ex:X.ex=[])(R:X.N.Nodup)(I:Inv X j J H s)(hx:ux X.p X.w X.k H s N e W)
  (gl:Gl X c) (G:X.g c=some (.ref M)) (A:(c == ("__debug__":Str))=false) (V:X.N[i]? = some n) (B:X.e.scope.names.lookup n=some .local) (hb:∀e,gb (i5 X e) (Q::d) (ts e))
  (k:∀(a:Addr) (l:Value) (od:Option Addr) (S:Hp),e=.ref a->N l od S->S a=none->∃C,l=.ref C/\kU X.K l (.ref M)=some true /\
   ts e { nx:=λp b=>D.nx (p.set i none) b,rt:=D.rt,bk:=λp b=>D.bk (p.set i none) b,ct:=λp b=>D.ct (p.set i none) b } (J.set i (some (.ref a))) (upd S a (.ext (fO a C od)))) :
  wx X (noteFrame e X.e) (λ_ s2=>wx X (setFlight e none) (λ_ s3=>wx X (handleBy e X.e (.ExceptHandler (some (.Name c np)) (some n) (Q::d) o::cu)) (SP X j D) X.xe s3) X.xe s2) X.xe W:=by
 refine vD L P ex I hx gl G A λa l od S T qe hn=>?_;obtain⟨C,hc,K,go⟩:=k a l od S T qe hn;subst T;refine⟨C,hc,K,λs5 y=>codeAny_handlers_suite_as (y λs7 I7=>?_)⟩;refine k' I7 R V (.inl B) (v:=.ref a) (u:=.ref a) rfl (λs8 I8 _=>?_) (.inr B);refine bm (hb (.ref a) j s8 _ _ _ (o7 I8 (.ref a)) go) (λf Z F=>?_) λ_ _ z=>z.elim;have hp:(X.e.scope.kind == .class ||(X.e.scope.kind == .module && X.e.locals != X.e.globals))=false:=by rw[I.o.kind];rfl
 have w:∀{p:L2.St}{b:Hp},Inv (i5 X (.ref a)) j p b Z->(∀h,Inv X j (p.set i none) b h->SP X j D f h)->wx X (do bindName X.e n .none;unbindBehindTheSuite X.e n o) (λ_ h=>SP X j D f h) X.xe Z:=λt k9=>by have t:=uX I.o t;obtain⟨m,hm,g⟩:=id t.loc;exact wpAny_nameGoes_keeps B hm hp λh' v E hs=>k9 _ (BL t R V g E hs)
 cases f with
 |next=>obtain⟨p,b,t,q⟩:=F;exact w t λh x=>⟨_,_,x,q⟩
 |brk=>obtain⟨p,b,t,q⟩:=F;exact w t λh x=>⟨_,_,x,q⟩
 |cont=>obtain⟨p,b,t,q⟩:=F;exact w t λh x=>⟨_,_,x,q⟩
 |ret u=>obtain⟨v,p,b,t,r,q⟩:=F;exact w t λh x=>⟨v,_,_,x,r,q⟩
end
def Bi(e C:Addr):Heap->Prop:=λh=>∃t,h.get? e=some { cls:=.ref C,data:=.fields #[.ref t,.none,.none,.none,.bool false,.none] }
def sd(e C d:Addr):Heap->Prop:=λh=>∃t,h.get? e=some { cls:=.ref C,dict:=some d,data:=.fields #[.ref t,.none,.none,.none,.bool false,.none] }
structure ExcSt(K:FG)(C:Addr)(f:Str):Prop where
 cd:∃cd,pR K C=some cd/\cd.hasDict=true/\Kx.rS cd.mro=true
 set:cS K (.ref C) "__setattr__"=some (some (.builtin "object.__setattr__"))
 no:cS K (.ref C) f=some none
section
variable{X:Cx}{j:PN}{J:L2.St}{H:Hp}{s:Shared}
theorem yP(I:Inv X j J H s)(T:X.ex=[])(K:H e=some (.ext (Bi e C)))(g:ExcSt X.K C f)(ry:RelV r u)
  (h:∀d L,H d=none->d≠e->Inv X j J (upd (upd H e (.ext (sd e C d))) d (.xd [(f,r)])) L->l () L):wpAny (model X.p X.w) A (setAttr (.ref e) f u) l E s:=by
 obtain⟨⟨t,P⟩,_,_⟩:=(show cj X.p X.w H s.heap e (.ext (Bi e C)) from I.h e _ K);obtain⟨⟨cd,S,hd,ho⟩,hs,a⟩:=g;refine Kx.yQ I.kIn P rfl rfl rfl S hd ho hs a λW F w Q R=>?_;have B:H s.heap.objs.size=none:=I.h.fresh (aw _);have D:s.heap.objs.size≠e:=bZ (bO (bg P));have v:s.heap.get? s.heap.objs.size=none:=by
  cases q:s.heap.get? s.heap.objs.size with
  |none=>rfl
  |some o=>exact absurd (bg q) (gw _)
 have G:∀i y:Heap,sd e C s.heap.objs.size i->(∀o,i.get? e=some o->y.get? e=some o)->sd e C s.heap.objs.size y:=λi y ⟨t,q⟩ k=>⟨t,k _ q⟩;have M:Inv X j J (upd H e (.ext (sd e C s.heap.objs.size))) { s with heap:=W,toks:=F }:=I.write (x:=e) (e:=e) (by rw[K];exact True.intro) (.inl rfl) (λb q Z z=>R b q Z z) ⟨_,w⟩ ⟨⟨t,w⟩,⟨_,w⟩,G⟩;have N:X.z.heap.get? s.heap.objs.size=none:=by
  cases q:X.z.heap.get? s.heap.objs.size with
  |none=>rfl
  |some o=>obtain⟨o',z⟩:=I.base.there _ o q (by rw[T];simp);rw[v]at z;cases z
 refine h _ _ B D (lg M N ?_ ?_ ?_ ?_ ?_)
 .rw [aM D];exact B
 .intro z;obtain⟨m,⟨o,_,_,q,_⟩,_⟩:=I.loc;rw[<- z,v]at q;cases q
 .intro x c S z;obtain⟨w',q⟩:=I.cell x c S;obtain⟨o,q,_⟩:=q;rw[z,v]at q;cases q
 .intro p hp z;obtain⟨q,_⟩:=I.pin p hp;rw[z,v]at q;cases q
 .refine⟨_,Q,λn=>?_⟩;by_cases a:n=f
  .subst a;rw[ai rfl];simp only[cF,beq_self_eq_true];exact ry
  .rw [ar a];have:([(f,r)]:List (Str×V)).lookup n=none:=by simp[cF,ls.mpr a]
   rw[this];exact True.intro
end
section
variable{X:Cx}{o value:Expr}{f:Str}{B pos':Pos}{ta tv:TE}
def Ph(K:FG)(ta tv:TE)(f:Str):TS:=λD J H=>tv J H λy a=>ta J a λx h=>∃e C,x=.ref e/\h e=some (.ext (Bi e C))/\ExcSt K C f/\∀d,h d=none->d≠e->D.nx J (upd (upd h e (.ext (sd e C d))) d (.xd [(f,y)]))
theorem D7(c:X.ex=[])(r:PE X o ta)(v:PE X value tv)(t:swapsWith value (some (.Attribute o f pos')) B.line X.e=pure false):PS X (.Assign [.Attribute o f pos'] value B) (Ph X.K ta tv f):=by intro j s J H D I h;refine xH (cR (v j s J H _ I h) λu K ⟨y,a,n,F,q⟩=>cR (r j K J a _ n q) λi A z=>?_) t;obtain⟨x,P,k,S,e,C,eE,m,g,l⟩:=z;subst eE;obtain rfl:i=Value.ref e:=S;exact yP k c m g F λd E p w b=>⟨J,_,b,l d p w⟩
end
section
variable{Pg:Program}{w:World}{K:FG}{mg:SV}{d:Heap}
def MZ(K:FG)(f:Str):Sp:=λvs H Q _=>∃e C v,vs=[.ref e,v]/\H e=some (.ext (Bi e C))/\ExcSt K C f/\∀d,H d=none->d≠e->Q .non (upd (upd H e (.ext (sd e C d))) d (.xd [(f,v)]))
end
section
variable{Pg:Program}{w:World}{K:FG}{mg:SV}{d:Heap}
abbrev Ou(P:Program)(w:World)(K:FG)(mg:SV)(d:Heap)(N:LS)(q:Str)(p:Scope)(f:Addr)(h:Value)(A:Around)(o:List Env)(s:Shared)(H:Hp):Cx:=
 { lX ow P w K mg d N q p f h A o s H E0 with c:=false,xe:=λ_ _=>False }
structure FnU(P:Program)(w:World)(K:FG)(mg:SV)(base:Heap)(f:Addr)(fd:FuncData)(ps:LS)(sp:Sp):Prop where
 len:∀vs H Q E,sp vs H Q E->vs.length=ps.length
 run:∀(A:Around)(outer:List Env)(s:Shared)(H:Hp)(args:Args)(us:LV)(vs:List V)(Q:VK),A.depth+4 < recursionLimit->Env0 P w K mg base A outer s H->BindsTo s fd args (ps.zip us)->bi vs us->sp vs H Q E0 ->
  codeAny (model P w) A (.call (.ref f) args) (CR ow outer P w H s Q E0) s
theorem HK{x l:Str}{G:Stmt}{f:Addr}{W:FuncData}{N ps:LS}{R:Sp}(F:Fun K x l G f W)(S:FnScope N ps (ac G))(len:∀vs H Q E,R vs H Q E->vs.length=ps.length)
  (m:∀(L:Value)(A:Around)(r:List Env)(s:Shared)(H:Hp)(vs:List V)(Q:VK),R vs H Q E0->∃t,gb (Ou Pg w K mg d N l (ac G) f L A r s H) (aA G) t/\t { nx:=λ_ Z=>Q .non Z,rt:=Q } (start N vs) H):FnU Pg w K mg d f W ps R:=by
 obtain⟨_,_,_,_,_,_,code,_,_,rfl,B,D⟩:=F.ex;refine⟨len,λA r s H T us vs Q C a bind M p=>?_⟩;have k:d.StaysIn s.heap:=λb o e=>(a.bs b o e).1;have g:=a.mod.kin.keeps k;refine xz (qT (by lia) C) (g _ _ B) rfl S.co S.gen rfl (zR g D) (bind _ _ _ _ (xG S.kind (λy hy=>(S.par y.1 (mD hy).1).imp id λz=>⟨z,uH _ _ _ (.inl z)⟩) λen same X n=>?_));subst same;obtain⟨t,i,P⟩:=m code A r s H vs Q p;refine⟨(a.mod.nolimit.keeps k).keeps n.toInCall.keep,codeAny_func ?_⟩;have h:=pr (CX:=ow) (E:=E0) (D:=code) (f:=f) (l:=l) (A:={ A with handled:=none }) S rfl ⟨a.frames,a.mod,a.bs,a.bsz,a.funs,a.frf,a.h,a.bare⟩ (len _ _ _ _ p) M n;have J2:Inv (Ou Pg w K mg d N l (ac G) f code A r s H) [] (start N vs) H X:=
  ⟨⟨h.o.mod,h.o.kind,h.o.glob,h.o.blt,h.o.above,h.o.inj,h.o.has,h.o.cab,(λz=>nomatch z),h.o.frames,h.o.stk,h.o.exf,h.o.bs,h.o.bsz,h.o.noex,h.o.exfs,h.o.funs,h.o.frf⟩,h.os,h.bare,h.base,h.loc,h.cell,h.free,h.freeC,h.pin,h.h,h.len⟩
 refine bm (i [] X _ H _ J2 P) (λj s2 z=>?_) λ_ _ z=>z.elim;cases j with
 |ret u=>obtain⟨v,_,I,c,rv,q⟩:=z;exact⟨v,I,c.os,c.bare,c.base,c.h,rv,q⟩
 |next=>obtain⟨_,I,c,q⟩:=z;exact⟨.non,I,c.os,c.bare,c.base,c.h,rfl,q⟩
 |brk=>exact(let ⟨_,_,_,q⟩:=z;q.elim)
 |cont=>exact(let ⟨_,_,_,q⟩:=z;q.elim)
theorem zc{a b:Str}{u:Str}{G:Stmt}{fa:Addr}{x:FuncData}{f:Str}{p k m r:Pos}(F:Fun K "__init__" u G fa x)(S:FnScope [a,b] [a,b] (ac G))(l:aA G=[.Assign [.Attribute (.Name a p) f k] (.Name b m) r])
  (M:∀e:Env,e.scope=ac G->CA e.scope a/\CA e.scope b) (B:(a == ("__debug__":Str))=false) (D:(b == ("__debug__":Str))=false) (I:(a == ("__classdict__":Str))=false) (L:(b == ("__classdict__":Str))=false)
  (y:∀n:Env,swapsWith (.Name b m) (some (.Attribute (.Name a p) f k)) r.line n=pure false):FnU Pg w K mg d fa x [a,b] (MZ K f):=by
 refine HK F S (λvs H Q E h=>?_) λc A o s H vs Q h=>?_
 .obtain⟨e,C,v,rfl,_⟩:=h;rfl
 .obtain⟨e,C,v,rfl,j,g,q⟩:=h;rw[l];obtain⟨v1,v2⟩:=M (envOfC u (ac G) s.heap.objs.size fa c) rfl;refine⟨_,mR (D7 rfl (rM (i:=0) rfl v1 B I) (rM (i:=1) rfl v2 D L) (y _)),?_⟩;exact⟨v,rfl,.ref e,rfl,e,C,rfl,j,g,λt z P=>q t z P⟩
end
section
variable{X:Cx}{j:PN}{J:L2.St}{H:Hp}{s:Shared}
theorem yS(I:Inv X j J H s)(M:X.ex=[])(w:A.frames=X.A.frames)(V:A.depth+4 < recursionLimit)(a:uI s.heap l e (.ref C) [u])(F:FnU X.p X.w X.K X.g X.b N fd ps (MZ X.K f))(y:∀n:Shared,X.K.In n.heap->BindsTo n fd ⟨[.ref e,u],[]⟩ (ps.zip [.ref e,u]))(g:ExcSt X.K C f)(ru:RelV v u) :
  wpAny (model X.p X.w) A (call (.ref N) [.ref e,u]) (λr n=>r=.none/\∃d,H e=none/\H d=none/\d≠e/\Inv X j J (upd (upd H e (.ext (sd e C d))) d (.xd [(f,v)])) n) (λ_ _=>False) { s with heap:=l }:=by
 obtain⟨t,S,_,_⟩:=a.there;have K:H e=none:=HB I a.new;have D:Inv X j J H { s with heap:=l }:=I.kept (t':=s.toks) a.keeps;have G:X.z.heap.get? e=none:=by
  cases q:X.z.heap.get? e with
  |none=>rfl
  |some o=>obtain⟨o',z⟩:=I.base.there _ o q (by rw[M];simp);rw[a.new]at z;cases z
 have b:Inv X j J (upd H e (.ext (Bi e C))) { s with heap:=l }:=by
  refine lg D G K (λz=>?_) (λx c R z=>?_) (λp T z=>?_) ⟨⟨t,S⟩,⟨_,S⟩,λha y ⟨t,q⟩ k=>⟨t,k _ q⟩⟩
  .obtain⟨m,⟨o,_,_,q,_⟩,_⟩:=I.loc;rw[<- z,a.new]at q;cases q
  .obtain⟨w',o,q,_⟩:=I.cell x c R;rw[z,a.new]at q;cases q
  .obtain⟨q,_⟩:=I.pin p T;rw[z,a.new]at q;cases q
 have h:=b.env0;refine hI (hJ (F.run A X.k _ _ ⟨[.ref e,u],[]⟩ [.ref e,u] [.ref e,v] (λr i=>r=.non/\∃d,H d=none/\d≠e/\i=upd (upd H e (.ext (sd e C d))) d (.xd [(f,v)])) V ⟨w.trans h.frames,h.mod,h.bs,h.bsz,h.funs,h.frf,h.h,h.bare⟩ (y _ b.kIn) (.cons rfl (.cons ru .nil)) ?_) λr n q=>?_)
 .refine⟨e,C,v,rfl,aX,g,λd P B=>⟨rfl,d,?_,B,?_⟩⟩
  .rw [aM B]at P;exact P
  .rw [DC]
 .cases r with
  |error x=>exact q.elim
  |ok Q=>
   cases Q with
   |ret u2=>obtain⟨v2,i,E,rv,L,d,W,Z,rfl⟩:=b.after q;subst L;exact⟨rv,d,K,W,Z,E⟩
   |next=>exact q.elim
   |brk=>exact q.elim
   |cont=>exact q.elim
end
def Qi(K:FG)(C f:Addr):Prop:=∃t N o I,K.lookup C=some o/\Kx.XO o C N t/\uB K Kx.Er t=true/\uA K N=true/\(∀h:Heap,K.In h->h.nsMap N "__init__"=some (.ref f))/\K.lookup f=some I/\I.cls=.type "function"
noncomputable abbrev XV:=Str×Option (Str×P)
noncomputable abbrev EX:=Lc->aL->Option (XV×Lc×aL)
noncomputable abbrev CH:=Option (XV×Lc×aL)
noncomputable abbrev GX:=List D->aL->Option (XV×aL)
def kP(X:Cx)(c:Str)(od:Option Addr)(J:L2.St)(H:Hp):Prop:=∀C,bo X.K mainGlobals c=some (some (.ref C)) ->
 ∀(j:PN)(h:Hp)(s:Shared)(E:XK)(e:Value)(a:Shared),Inv X j J h s->ux X.p X.w X.k h s E e a->(∀l o x,E l o x->l=.ref C/\o=od/\x=H)->X.xe e a
def Lw(X:Cx)(E:XK)(c:Str)(od:Option Addr)(H:Hp):Prop:=∀C,bo X.K mainGlobals c=some (some (.ref C))->E (.ref C) od H
inductive tXI(X:Cx)(E:XK)(f:EX)(J:L2.St)(H:Hp):Prop
 |mk (F:Aa) (m:List Addr) (L:Lc) (S:aL) (x:XV) (L':Lc) (S':aL) (h0_:Rel X.K F H m S) (h1_:RL X.K F H m J L) (h2_:f L S=some (x,L',S')) (h3_:∀J' F' m' H' od,Stp F m H F' m' H'->Rel X.K F' H' m' S'->RL X.K F' H' m' J' L'->XD X.K F' H' x.2 od->Lw X E x.1 od H'):tXI X E f J H
noncomputable def tX(X:Cx)(E:XK)(f:EX):TS:=λ_ J H=>tXI X E f J H
inductive tXEI(X:Cx)(f:EX)(J:L2.St)(H:Hp):Prop
 |mk (F:Aa) (m:List Addr) (L:Lc) (S:aL) (x:XV) (L':Lc) (S':aL) (h0_:Rel X.K F H m S) (h1_:RL X.K F H m J L) (h2_:f L S=some (x,L',S')) (h3_:∀J' F' m' H' od,Stp F m H F' m' H'->Rel X.K F' H' m' S'->RL X.K F' H' m' J' L'->XD X.K F' H' x.2 od->kP X x.1 od J' H'):tXEI X f J H
noncomputable def DO(X:Cx)(f:EX):TE:=λJ H _=>tXEI X f J H
def JE(X:Cx)(f:EX):TS:=λ_ J H=>DO X f J H λ_ _=>True
@[simp] def iU(_L:Lc)(_S:aL):CH:=none
@[simp] def cP(f0:ES)(f g:EX)(L:Lc)(S:aL):CH:=match f0 L S with
 |some (.nx,h,x)=>g h x
 |some _=>none
 |none=>f L S
noncomputable def uN(g:jD)(b:ES)(x:EX):List P->Lc->aL->Option (XV×Lc×aL)
 | [],_,_=>none
 |v::r,L,S=>match g v L with
  |none=>none
  |some a=>match b a S with
   |some (.nx,L2,h)=>uN g b x r L2 h
   |some (.ct,L2,h)=>uN g b x r L2 h
   |some _=>none
   |none=>x a S
@[simp] def OQ(i:gc)(g:jD)(b:ES)(x:EX)(L:Lc)(S:aL):CH:=bC (i L S) λs h=>uN g b x s L h
@[simp] def Mu(c:Str)(L:Lc)(S:aL):CH:=some ((c,none),L,S)
@[simp] def N8(fo:EE)(fx:EX)(L:Lc)(S:aL):CH:=bC (fo L S) λd h=>match eH d h with
 |some _=>fx L h
 |none=>none
@[simp] def ny(g:GX)(a:lr)(L:Lc)(S:aL):CH:=bC (a L S) λd h=>(g d h).map λz=>(z.1,L,z.2)
section
variable{X:Cx}{G:Stmt}{cu bs cs:List Stmt}{e:Expr}{es:Ab}{B:Pos}{f0:ES}{f g:EX}{E:XK}
theorem Mq:gb X cu (tX X E iU):=λ_ _ _ _ _ _ ⟨_,_,_,_,_,_,_,_,_,q,_⟩=>nomatch q
theorem Gb:PS X G (tX X E iU):=λ_ _ _ _ _ _ ⟨_,_,_,_,_,_,_,_,_,q,_⟩=>nomatch q
theorem FZ(d:PS X G (iG X.K f0))(w:PS X G (tX X E f))(u:gb X cu (tX X E g)):gb X (G::cu) (tX X E (cP f0 f g)):=λj s J H D I z=>by
 obtain⟨F,m,L,S,c,h,a,r,l,q,k⟩:=z;unfold cP at q;split at q
 .rename_i x e v;exact kq d u j s J H D I ⟨F,m,L,S,.nx,x,e,r,l,v,λQ n o N B P i=>⟨n,o,x,e,c,h,a,P,i,q,λp b K t od C A y M=>k p b K t od (B.trans C) A y M⟩⟩
 .cases q
 .exact kq w (la (X:=X)) j s J H D I ⟨F,m,L,S,c,h,a,r,l,q,k⟩
theorem Jg(h:PS X G (tX X E f)):gb X [G] (tX X E f):=mR h
theorem GH(x:gb X cu t)(a:gb X cu u):gb X cu (λD J H=>t D J H\/u D J H):=λj s J H D I h=>h.elim (x j s J H D I) (a j s J H D I)
def Qg(K:FG)(C:Addr):Prop:=∃t N o,K.lookup C=some o/\Kx.XO o C N t/\uB K Kx.Er t=true/\uA K N=true/\bo K N "__init__"=some none
inductive spEI(K:FG)(gx:GX)(vs:List V)(H:Hp)(E:XK):Prop
 |mk (F:Aa) (m:List Addr) (ds:List D) (S:aL) (x:XV) (S':aL) (h0_:Rel K F H m S) (h1_:dQ K F H m ds vs) (h2_:gx ds S=some (x,S')) (h3_:∀F' m' H' od,Stp F m H F' m' H'->Rel K F' H' m' S'->XD K F' H' x.2 od->∃C,bo K mainGlobals x.1=some (some (.ref C))/\E (.ref C) od H'):spEI K gx vs H E
noncomputable def AE(K:FG)(g:GX):Sp:=λvs H _ E=>spEI K g vs H E
def zq(K:FG)(g:GX):Prop:=∀d S x h,g d S=some (x,h)->∃C,bo K mainGlobals x.1=some (some (.ref C))
theorem F5(G:FnOk X.p X.w X.K X.g X.b (ux X.p X.w) k fa fd ps (AE X.K N))(cl:zq X.K N)(hr:Room k X.A)(hg:Gl X x)(hm:X.g x=some (.ref fa))(hk:eY X.K (.ref fa)=true)(hb:Binds X.K fd ps [])
  (ha:PA X (e::es) (s0 X.K z)) (E:(x == ("__debug__":Str))=false) (he:starEach (e::es) X.e=(false,eval e X.e)::starEach es X.e) (R:(backTo B (starEach es X.e)).any (·.1)=false) :
  PE X (.Call (.Name x p) (e::es) [] B) (DO X (ny N z)):=λj s J H Q I T=>by
 obtain⟨F,m,L,S,c,L',S',r,l,q,kk⟩:=T;obtain⟨A,y,e1,q⟩:=ah q;obtain⟨⟨K,Z⟩,eg,q⟩:=dJ.mp q;cases q;obtain⟨C,ns⟩:=cl A y K Z eg;refine na (jw I hg hm ?_ E);refine nk (h₀:=X.b) I.o.mod.kin hk (cR (ha B j s J H (λvs w=>AE X.K N vs w Q (λf od b=>f=.ref C/\kP X K.1 od J b)) I ⟨F,m,L,S,A,y,r,l,e1,λxs F' m' i s' r' p'=>⟨F',m',A,y,K,Z,r',p',eg,λF2 m2 b od g V xd=>⟨C,ns,rfl,kk J F2 m2 b od (s'.trans g) V (l.mono (s'.trans g)) xd⟩⟩⟩) λus W T=>?_) he R;obtain⟨vs,w,t,rv,q1⟩:=T;refine⟨t.kIn,?_⟩;have hl:us.length=ps.length:=by rw[<- rv.length];exact G.len _ _ _ _ q1
 refine hI (hJ (G.run X.A X.k W w ⟨us,[]⟩ us vs Q _ hr t.env0 (by have:=hb W us t.kIn (by simpa using hl);simpa using this) rv q1) λV g d=>?_);cases V with
 |error ev=>obtain⟨a,f,a0,i,h,od,rfl,os,v,un,M,hn,c0,P,c2,D,sx,rfl,qe⟩:=d;exact qe C ns j w W (λf o b=>f=.ref C/\o=od/\b=i) _ g t ⟨a,.ref C,a0,i,h,od,rfl,os,v,un,M,hn,c0,P,c2,D,sx,rfl,rfl,rfl⟩ λf o b n=>n
 |ok D=>
  cases D with
  |ret u=>exact t.after d
  |next=>exact False.elim d
  |brk=>exact False.elim d
  |cont=>exact False.elim d
theorem JF{D:Ends}{J:L2.St}{H:Hp}(w:Leaves X E)(h:tX X E f D J H):JE X f D J H:=by obtain⟨F,m,L,S,c,t,p,r,l,q,k⟩:=h;refine⟨F,m,L,S,c,t,p,r,l,q,λb a u K od s r l i C g j P A y e B I d v=>Bs w I d λx o n z=>?_⟩;obtain⟨rfl,rfl,rfl⟩:=v x o n z;exact k b a u _ _ s r l i C g
theorem Gc(h:PE X e (DO X f))(s:swapsWith e none B.line X.e=pure false):PS X (.Expr e B) (JE X f):=(xX h s).imp' λ_ _ _ z=>z
theorem Jw(h:PE X e (DO X f)):PS X (.Return (some e) B) (JE X f):=(AW h).imp' λ_ _ _ z=>z
theorem Jv(i:Nat)(N:X.N.Nodup)(h:PE X e (DO X f))(s:X.N[i]? = some x)(k:Loc X.e.scope x)(n:swapsWith e (some (.Name x pos')) B.line X.e=pure false)(a:X.fn x=true\/X.e.scope.names.lookup x=some .local):PS X (.Assign [.Name x pos'] e B) (JE X f):=
 (AV N s k h n a).imp' λ_ _ _ z=>z
end
noncomputable def fnX(p n:Nat)(b:EX):GX:=λd S=>if d.length=p then (b (d.map some++List.replicate (n-d.length) none) S).map λz=>(z.1,z.2.2) else none
theorem HI{Pg:Program}{w:World}{K:FG}{mg:SV}{d:Heap}{x u:Str}{G:Stmt}{f:Addr}{t:FuncData}{N ps:LS}{k:Nat}{b:EX}(F:Fun K x u G f t)(S:FnScope N ps (ac G))(rd:∀{F:Aa}{H:Hp}{m:List Addr}{a:List D}{vs:List V},dQ K F H m a vs->RL K F H m (L2.start N vs) (a.map some++List.replicate (N.length-a.length) none))
  (M:∀(v:Value) (A:Around) (o:List Env) (s:Shared) (H:Hp) (E:XK),Room k (A.deeper (envOfC u (ac G) s.heap.objs.size f v)) ->
   gb (lX (ux Pg w) Pg w K mg d N u (ac G) f v A o s H E) (aA G) (tX (lX (ux Pg w) Pg w K mg d N u (ac G) f v A o s H E) E b)):FnOk Pg w K mg d (ux Pg w) (k+1) f t ps (AE K (fnX ps.length N.length b)):=by
 obtain⟨oc,od,kV,B,pm,an,v,ct,X,rfl,lk,e⟩:=F.ex;refine FK lk e S (λvs H Q E h=>?_) λA o s H vs Q E R h=>⟨_,M v A o s H E R,?_⟩
 .obtain⟨F,m,a,S,c,y,l,r,q,p⟩:=h;rw[<- r.length];unfold fnX at q;split at q
  .assumption
  .cases q
 .obtain⟨F,m,a,S,c,y,l,r,q,p⟩:=h;unfold fnX at q;split at q
  .obtain⟨⟨P,L,z⟩,I,q⟩:=dJ.mp q;cases q;refine⟨F,m,_,S,P,L,z,l,rd r,I,λJ' i T j od s' r' l' xd C W=>?_⟩;obtain⟨g,n,Z⟩:=p i T j od s' r' xd;cases (show some (some (Value.ref C))=some (some (Value.ref g)) from W.symm.trans n);exact Z
  .cases q
noncomputable def u1(f0:ES)(fx:EX)(sub:Str->Bool)(i:Nat)(g:ES):ES:=λL S=>match f0 L S with
 |some z=>some z
 |none=>match fx L S with
  | some (c,x,h)=>if sub c.1=true then (match g (x.set i (some (.ref h.length))) (h++[.exc c.1 c.2]) with
   |some (f,L2,a)=>some (f,L2.set i none,a)
   |none=>none) else none
  |none=>none
section
variable{X:Cx}
theorem RL.clr {K:FG}{F:Aa}{H:Hp}{m:List Addr}{J:L2.St}{L:Lc} (h:RL K F H m J L) (i:Nat):RL K F H m (J.set i none) (L.set i none):=⟨by rw [dM,dM];exact h.len,fun j d q=>by
 by_cases x:i=j
 .subst x;by_cases a:i < L.length
  .rw [dm a]at q;cases q
  .rw [qK (by rw[dM];lia)]at q;cases q
 .rw [cr x]at q;rw[cr x];exact h.at' j d q⟩
noncomputable abbrev jJ(X:Cx)(E:VP)(p:PN):Cx:={ X with xe:=E,pn:=p }
theorem IY{Q:List Stmt}{c n:Str}{C2:Addr}{i:Nat}{b0:Stmt}{v:List Stmt}{np M B:Pos}{f0 g:ES}{fx:EX}{sub:Str->Bool}(stk:X.k=X.e::X.o)(frm:X.e.frame=some X.e.locals)(ex:X.ex=[])(hN:X.N.Nodup)
  (gl:Gl X c) (mgc:X.g c=some (.ref C2)) (hdb:(c == ("__debug__":Str))=false) (hi:X.N[i]? = some n) (hl:X.e.scope.names.lookup n=some .local)
  (h0:∀E T,gb (jJ X E T) Q (iG X.K f0)) (hx:∀E T,gb (jJ X E T) Q (JE (jJ X E T) fx)) (hg:∀e,gb (i5 X e) (b0::v) (iG X.K g))
  (hs:∀x C,sub x=true->bo X.K mainGlobals x=some (some (.ref C))->kU X.K (.ref C) (.ref C2)=some true) :
  PS X (.Try Q [.ExceptHandler (some (.Name c np)) (some n) (b0::v) M] [] [] B) (iG X.K (u1 f0 fx sub i g)):=λj s J H D I hz=>by
 obtain⟨F,m,L,S,fl,L',S',r,l,q,k⟩:=hz;unfold u1 at q;split at q
 .rename_i z e0;cases q;refine xg (bm (h0 (λ_ _=>False) X.pn j s J H D (I.wish _) ⟨F,m,L,S,fl,L',S',r,l,e0,k⟩) (λf V b=>?_) λ_ _ z=>z.elim);have b:=SP.unwish (X:=X) (E:=λ_ _=>False) b;cases f with
  |next=>exact aJ b
  |_=>exact b
 .split at q
  .rename_i x R A e1;split at q
   .rename_i N;split at q
    .rename_i fl2 Lg Sg eg;cases q;have IX:∀{E:VP}{t:PN}{J2:L2.St}{W:Hp}{s2:Shared},Inv (jJ X E (X.pn++j)) t J2 W s2->Inv X j J2 W s2:=λh=>
      ⟨⟨h.o.mod,h.o.kind,h.o.glob,h.o.blt,h.o.above,h.o.inj,h.o.has,h.o.cab,h.o.hd,h.o.frames,h.o.stk,h.o.exf,h.o.bs,h.o.bsz,h.o.noex,h.o.exfs,h.o.funs,h.o.frf⟩,h.os,h.bare,h.base,h.loc,h.cell,h.free,h.freeC,λp hp=>h.pin p (gm _ hp),h.h,h.len⟩
     have XI:∀E:VP,Inv (jJ X E (X.pn++j)) [] J H s:=λE=>
      ⟨⟨I.o.mod,I.o.kind,I.o.glob,I.o.blt,I.o.above,I.o.inj,I.o.has,I.o.cab,I.o.hd,I.o.frames,I.o.stk,I.o.exf,I.o.bs,I.o.bsz,I.o.noex,I.o.exfs,I.o.funs,I.o.frf⟩,I.os,I.bare,I.base,I.loc,I.cell,I.free,I.freeC,λp hp=>I.pin p ((jq.mp hp).elim id λz=>nomatch z),I.h,I.len⟩
     refine xg (bm (hx _ (X.pn++j) [] s J H ⟨λ_ _=>False,λ_ _=>False,λ_ _=>False,λ_ _=>False⟩ (XI _) ⟨F,m,L,S,x,R,A,r,l,e1,λJ1 y G H1 od V r1 l1 xd C ns t W s2 E e s3 h hc hE=>?_⟩) (λf V b=>?_) λe V b=>b)
     .refine Cd (D:=D) (ts:=λ_=>iG X.K g) stk frm ex hN (IX h) hc gl mgc hdb hi hl hg λa Z o P he qe hn=>?_;obtain⟨rfl,rfl,rfl⟩:=hE Z o P qe;have s5:Stp y G P y (G++[a]) (upd P a (.ext (fO a C o))):=ju hn;have r5:Rel X.K y (upd P a (.ext (fO a C o))) (G++[a]) (A++[.exc x.1 x.2]):=Rel.own (K:=X.K) (so:=.exc x.1 x.2) r1 hn ⟨C,o,ns,aX,xd.kp s5.kp⟩;have l5:RL X.K y (upd P a (.ext (fO a C o))) (G++[a]) (J1.set i (some (.ref a))) (R.set i (some (.ref A.length))):=RL.set (RL.mono s5 (show RL X.K y P G J1 R from l1)) (d:=.ref A.length) ⟨a,rfl,by rw[<- r1.len];simp⟩ i;refine⟨C,rfl,hs x.1 C N ns,y,G++[a],R.set i (some (.ref A.length)),A++[.exc x.1 x.2],fl,Lg,S',r5,l5,eg,λJ4 F4 m4 H4 s4 r4 l4=>?_⟩;have w:=k (J4.set i none) F4 m4 H4 (V.trans (s5.trans s4)) r4 (l4.clr i);cases fl with
      |nx=>exact w
      |bk=>exact w
      |ct=>exact w
      |rt d=>exact w
     .cases f with
      |next=>obtain⟨_,_,_,z⟩:=b;exact z.elim
      |brk=>obtain⟨_,_,_,z⟩:=b;exact z.elim
      |cont=>obtain⟨_,_,_,z⟩:=b;exact z.elim
      |ret u=>obtain⟨_,_,_,_,_,z⟩:=b;exact z.elim
    .cases q
   .cases q
  .cases q
end
open PySem.W (Looks)
open PySem.Builtin PySem.Builtin.ObjectAttr PySem.Builtin.Getset_descriptor
section
variable{i:Program}{w:World}{A:Around}{E:VP}{s:Shared}{K:FG}{a C:Addr}
theorem tj(T:Looks (model i w) s.heap (typeOf (.ref a)) (.ref C))(sub:Looks (model i w) s.heap (isSubtype (.ref C) (.type "object")) true)(h:R (.ok (.ret (.ref C))) s) :
  codeAny (model i w) A (.call (.builtin "getset_descriptor.__get__") ⟨[.builtin "object.__class__",.ref a,b],[]⟩) R s:=by
 have o:∀B:Around,wpAny (model i w) B (Builtin.«object.__class__» ⟨[.ref a],[]⟩) (λf u=>f=.done (.ret (.ref C))/\u=s) (λ_ _=>False) s:=λB=>by
  obtain⟨p,g,d,t,os⟩:=s;simp only[Builtin.«object.__class__»,shownTypeOf];repeat lk
  exact⟨rfl,rfl⟩
 have k:∀B:Around,wpAny (model i w) B (descrCheckInstance (.builtin "object.__class__") (.ref a)) (λ_ u=>u=s) (λ_ _=>False) s:=λB=>by obtain⟨p,g,d,t,os⟩:=s;simp only[descrCheckInstance,descrNameAndClass,isInstance,PySem.W.KF.owner_class];repeat lk
 obtain⟨q,x⟩:=And.intro PySem.W.KF.slot_gs PySem.W.KF.entry_gs;refine pP q.plain x (q.check _ _ _ _ _ _ _ _ PySem.W.KF.type_class (PySem.W.KF.args_gs _ _ _) ?_);simp only[Builtin.«getset_descriptor.__get__»,descrGet,PySem.W.dga_obj,descrGetter];refine ae (aJ (ae (bm (k _) (λ_ u e=>?_) λ_ _ z=>z.elim)));subst e;refine aJ ⟨qo (id:="object.__class__") _ (by decide +kernel),codeAny_builtin PySem.W.KF.entry_class (bm (o _) (λf u e=>?_) λ_ _ z=>z.elim)⟩;obtain⟨rfl,rfl⟩:=e;exact h
structure ExcCl(K:FG)(C:Addr):Prop where
 get:cS K (.ref C) "__getattribute__"=some (some (.builtin "BaseException.__getattribute__"))
 hook:cS K (.ref C) "__getattr__"=some none
 cls:cS K (.ref C) "__class__"=some (some (.builtin "object.__class__"))
 by':pX K (.builtin "object.__class__") "__get__"=some (some (.builtin "getset_descriptor.__get__"))
 dat:uD K (.builtin "object.__class__")=some true
 obj:ng K C (.type "object")=some true
 bas:ng K C (.type "BaseException")=some true
 isC:(pR K C).isSome=true
theorem BZ(F:ExcCl K C)(n:K.In s.heap)(T:Looks (model i w) s.heap (typeOf (.ref a)) (.ref C))(q:k (some (.ref C)) { s with toks:=s.toks+1 }):wpAny (model i w) A (getAttr? (.ref a) "__class__") k E s:=by
 have sub:=pS (M:=model i w) n F.obj;have x:=pS (M:=model i w) n F.bas;have b:=jT (M:=model i w) n F.get;have o:=jT (M:=model i w) n F.hook;have m:Looks (model i w) s.heap (find (.ref a) (.ref C) "__class__") (.bind (.builtin "getset_descriptor.__get__") (.builtin "object.__class__")):=
  (jT n F.cls).andThen ((show Looks (model i w) s.heap (getOf (some (.builtin "object.__class__"))) (some (.builtin "getset_descriptor.__get__")) from PySem.W.looks_specialIn n F.by').andThen
   ((show Looks (model i w) s.heap (dataDescriptor? (some (.builtin "object.__class__")) (some (.builtin "getset_descriptor.__get__"))) (some (.builtin "getset_descriptor.__get__",.builtin "object.__class__")) from(PySem.W.looks_takesIn n F.dat).andThen .now).andThen (Looks.tag .now)))
 have f:∀B:Around,∀tk:Tok,∀u:Shared,u.heap=s.heap->codeAny (model i w) B (.call (.builtin "BaseException.__getattribute__") ⟨[.ref a,.str "__class__" tk],[]⟩) (λr y=>r=.ok (.ret (.ref C))/\y=u) u:=λB tk u v=>by
  obtain⟨p,g,d,t,os⟩:=u;cases (show p=s.heap from v);have j:builtinKind "BaseException.__getattribute__"=some .slot:=by decide +kernel
  have l:splitId "BaseException.__getattribute__"=some ("BaseException","__getattribute__"):=by decide +kernel
  refine pP (by decide +kernel) vX ?_;have c:=vW (.ref a) (.str "__class__" tk);simp only[checkBuiltinCall,j,l,isInstance];refine ae (ae (T.at (x.at ?_)));simp only[wg,fj,gW];refine wpAny_of_eq c ?_;refine ae (aJ (ae (aJ (ae (T.at (ae (m.at ?_)))))));show wpAny _ _ (bindTo (.builtin "getset_descriptor.__get__") (.builtin "object.__class__") (.ref a) (.ref C)) _ _ _;exact ae (gJ (hI (tj (s:=⟨s.heap,g,d,t,os⟩) T sub (aJ ⟨rfl,rfl⟩))))
 obtain⟨p,g,d,t,os⟩:=s;simp only[getAttr?,getAttrBy?,getAttrBy];refine ae (wpAny_mkText (ae (qZ (gJ (ae (T.at (ae (b.at ?_))))))));have h:(onTheHeap (Value.ref C) && Value.builtin "BaseException.__getattribute__" == Value.builtin "object.__getattribute__")=false:=by rw[show(Value.builtin "BaseException.__getattribute__" == Value.builtin "object.__getattribute__")=false by decide +kernel];rfl
 simp only[h,getAttrByItsOwn,hookBefore,fj,gW];refine ae (wpAny_ite ?_);rw[ai (show onTheHeap (Value.ref C)=true from rfl)];refine o.at (ae (qZ (gJ ?_)));have bound:=wd.ga.bind (.ref a);simp only[callGetattribute,boundAndCalled,qx,fj,gW,bound];refine ae (aJ (hI (hJ (f A t ⟨p,g,d,t+1,os⟩ rfl) λr u e=>?_)));obtain⟨rfl,rfl⟩:=e;exact zG rfl (aJ q)
end
section
variable{K:FG}{a C:Addr}{od:Option Addr}
theorem BY(p:fO a C od h):zJ M h (typeOf (.ref a)) (.ref C):=by obtain⟨o,x,c,_⟩:=p;rw[<- c];exact(wf x).andThen .now
theorem tW(F:ExcCl K C)(e:nh K (.ref C) (.ref C)=some true):PySem.W.KitX K (.ref a) (.ref C) (fO a C od) where
 ty:=λ_ _ _ p=>BY p
 it:=λ_ _ k _=>(PySem.W.kit_cls k e).2.1
 ne:=λh x d i n f k t=>by
  rcases q:(Value.ref C == Value.ref x) with _|_
  .rfl
  .have same:C=x:=by simpa using q
   subst same;have s:=F.isC;unfold pR at s;split at s
   .next l=>exact nomatch (k _ _ l).symm.trans t
   .exact nomatch s
 ca:=λk p g=>BZ F k (BY p) g
end
noncomputable def y'(y:Str->Option Bool):D->aL->Option Bool
 | .p .non,_=>some false
 | .ref i,S=>match S[i]? with
  |some (.exc c _)=>y c
  |_=>none
 |_,_=>none
@[simp] def km(y:Str->Option Bool)(f:EE)(L:Lc)(S:aL):tyV:=bC (f L S) λd h=>(y' y d h).map λb=>(.bl b,h)
noncomputable def Lf:Value->Option V
 | .ref C=>some (.ref C)
 | .type T=>some (.ty T)
 |_=>none
variable{v:V}{u:Value}
theorem Cb(h:Lf u=some v)(r:RelV v w):w=u:=by cases u<;>cases h<;>exact r
structure AnsOk(K:FG)(ans:Str->Option Bool)(u:Value):Prop where
 non:bp K (.type "NoneType") u=some false
 exc:∀c b C,ans c=some b->bo K mainGlobals c=some (some (.ref C))->ExcCl K C/\nh K (.ref C) (.ref C)=some true/\bp K (.ref C) u=some b
section
variable{X:Cx}{a:Expr}{fa:EE}{p B:Pos}{y:Str->Option Bool}
theorem zu(l:Lf u=some v)(K:AnsOk X.K y u) :
  dc X (.builtin "isinstance") (λt H Q=>∃F m S d b x,t=[x,v]/\Rel X.K F H m S/\RD X.K F H m d x/\y' y d S=some b/\Q (.bl b) H):=by
 intro j s J H t us Q I r h;obtain⟨F,m,S,d,b,x,rfl,B,pd,e,q⟩:=h;obtain⟨k,E,rfl,n,D⟩:=vals2 r;cases Cb l D;have f:∀tk,EP X j J Q (.bool b) { s with toks:=tk }:=λtk=>⟨.bl b,H,I.tok _,rfl,q⟩
 unfold y' at e;split at e
 .cases e;cases (show x=.non from pd);cases (show k=Value.none from n);exact dA uE I.kIn trivial K.non (λz=>nomatch z) f
 .split at e
  .next a c _ o=>obtain⟨ad,rfl,i⟩:=pd;cases (show k=Value.ref ad from n);obtain⟨C,od,P,g,_⟩:=B.obj _ ad _ i o;obtain⟨p,w,f3⟩:=K.exc c b C e P;have A:=I.h ad _ g;exact dA (tW p w) I.kIn A.1 f3 (λz=>nomatch z) f
  .cases e
 .cases e
theorem Jc(C:Lf u=some v)(K:AnsOk X.K y u)(P:Gl X "isinstance")(A:X.g "isinstance"=none)(z:PE X a (tE X.K fa))(o:PE X c (tC v))(f:starEach [a,c] X.e=[(false,eval a X.e),(false,eval c X.e)])(e:starEach [c] X.e=[(false,eval c X.e)]) :
  PE X (.Call (.Name "isinstance" p) [a,c] [] B) (tV X.K (km y fa)):=
 (i7 (zu C K) P A qA (d4 z (d4 o ij (by rw[e];rfl)) (by rw[f,e])) (by decide) (by decide) (by rw[f,e]) (by rw[e];rfl)).imp' λJ H Q D=>by obtain⟨F,m,L,S,d,G,r,l,q,k⟩:=D;obtain⟨x,I,i,q⟩:=ah q;obtain⟨b,j,q⟩:=dJ.mp q;cases q;exact⟨F,m,L,S,_,_,r,l,i,λh n t g s w E=>⟨n,t,_,x,b,h,rfl,w,E,j,k _ n t g s w rfl⟩⟩
end
@[simp] def Oo(a:lr)(L:Lc)(S:aL):sP:=bC (a L S) λx h=>if few x=true then some (.ref h.length,h++[.tpl x]) else none
@[simp] def LU(Z:List (Str×Str))(r:EE)(f:Str)(L:Lc)(S:aL):sP:=bC (r L S) λd h=>match d with
 | .ref i=>match h[i]? with
  |some (.exc c (some z))=>if (z.1=f/\Z.lookup c=some f) then some (.p z.2,h) else none
  |_=>none
 |_=>none
section
variable{X:Cx}{o:Expr}{f:Str}{B:Pos}{fo:EE}{Z:List (Str×Str)}{ta:TE}
noncomputable def O6(K:FG)(ta:TE)(f:Str):TE:=λJ H Q=>ta J H λx h=>∃a C d v,x=.ref a/\h a=some (.ext (fO a C (some d)))/\h d=some (.xd [(f,v)])/\ExcCl K C/\ExcSt K C f/\Q v h
theorem Kc(E:PE X o ta)(P:attributeBase o f X.e (eval o X.e)=eval o X.e):PE X (.Attribute o f B) (O6 X.K ta f):=by intro j s J H Q I h;refine yx P (cR (E j s J H _ I h) λu z L=>?_);obtain⟨x,k,n,Z,a,C,d,v,K,S,F,c,g,q⟩:=L;subst K;obtain rfl:u=Value.ref a:=Z;obtain⟨⟨W,A,p,i,vs,y,_⟩,_,_⟩:=(show cj X.p X.w k z.heap a (.ext (fO a C (some d))) from n.h a _ S);obtain⟨M,R,r⟩:=(show cj X.p X.w k z.heap d (.xd [(f,v)]) from n.h d _ F);obtain⟨od,t,D⟩:=pf R;obtain⟨w,G,e⟩:=iB.some_of (v:=v) (o:=M f) (by have:=r f;simpa[cF] using this);obtain⟨⟨cd,b,m,_⟩,_,N⟩:=g;obtain⟨oc,V,T,l⟩:=W;dsimp only at p i y;subst p i y;exact Kx.zi c.get c.hook c.bas n.kIn (N:=⟨.ref C,some d,.fields vs,l⟩) (od:=od) ⟨A,rfl,rfl,t⟩ (zW (by unfold pW;rw[b];exact m) N rfl (by rw[D,G])) (pu e) ⟨v,k,n.tok _,e,q⟩
theorem OL(K:∀c C,Z.lookup c=some f->bo X.K mainGlobals c=some (some (.ref C))->ExcCl X.K C/\ExcSt X.K C f)(E:PE X o (tE X.K fo))(P:attributeBase o f X.e (eval o X.e)=eval o X.e):PE X (.Attribute o f B) (tE X.K (LU Z fo f)):=
 (Kc E P).imp' λJ H Q I=>by
  obtain⟨F,m,L,S,d,V,r,l,q,k⟩:=I;obtain⟨x,b,u,q⟩:=ah q;refine⟨F,m,L,S,x,b,r,l,u,λv s M n T e R=>?_⟩;cases x with
  |p w=>cases q
  |ref i=>
   obtain⟨a,rfl,D⟩:=R;dsimp only at q;split at q
   .rename_i c z G;split at q
    .rename_i h;cases q;obtain⟨C,od,N,y,t,v,rfl,W,A,p⟩:=e.obj i a _ D G;obtain⟨g,j⟩:=K c C h.2 N;exact⟨a,C,t,v,rfl,y,by rw[A,h.1],g,j,k v s M n T e p⟩
    .cases q
   .cases q
end
theorem Hh{K:FG}{h:Heap}{N:Addr}{x:Str}{u:Value}(k:K.In h)(q:bo K N x=some (some u)):h.nsMap N x=some u:=by
 cases lk:cF N K with
 |none=>simp[bo,lk]at q
 |some o=>
  obtain⟨c,d,a,s⟩:=o;cases a with
  |dict es n=>
   cases f:es.toList.find? (·.key.isStr x) with
   |none=>simp[bo,lk,f]at q
   |some e=>simp only[bo,lk,f]at q;simp only[Heap.nsMap,k _ _ lk,nsFind,findBy,<- wy,f];simpa using q
  |_=>simp[bo,lk]at q
def sL(K:FG)(C:Addr)(f:Str):Prop:=ExcSt K C f/\∃I h p,Qi K C I/\(∀Pg w mg d,FnU Pg w K mg d I h p (MZ K f))/\∀(s:Shared)(e:Addr)(u:Value),K.In s.heap->BindsTo s h ⟨[.ref e,u],[]⟩ (p.zip [.ref e,u])
@[simp] def N7(fx:EX)(sub:Str->Bool)(i:Nat)(d f:Str)(L:Lc)(S:aL):CH:=match fx L S with
 | some (x,h,a)=>if (sub x.1 && x.2.isNone)=true then (match h[i]? with
  |some (some (.p p))=>some ((d,some (f,p)),h,a)
  |_=>none) else none
 |none=>none
noncomputable def IE(k:Nat):D->D
 | .p v=>.p v
 | .ref i=>.ref (i+k)
def Pd(k:Nat):SO->SO
 | .lst d=>.lst (d.map (IE k))
 | .dct s d=>.dct s (d.map (IE k))
 | .fz v=>.fz v
 | .ins c s d=>.ins c s (d.map (IE k))
 | .exc c x=>.exc c x
 | .tpl d=>.tpl (d.map (IE k))
 | .dtt s d=>.dtt s (d.map (IE k))
@[simp] def NG(g:GF)(a:gc)(L:Lc)(S:aL):sP:=bC (a L S) λp h=>match g (p.map .p) [] with
 |some (d,x)=>some (IE h.length d,h++x.map (Pd h.length))
 |none=>none
@[simp] def d8(c:EB)(f g:EX)(L:Lc)(S:aL):CH:=bC (c L S) λk h=>if k=true then f L h else g L h
def cL(c:EB)(b:ES)(x:EX):Nat->Lc->aL->Option (XV×Lc×aL)
 |0,_,_=>none
 | n+1,L,S=>bC (c L S) fun k a=>if k=true then (match b L a with
  |some (.nx,L2,h)=>cL c b x n L2 h
  |some (.ct,L2,h)=>cL c b x n L2 h
  |some _=>none
  |none=>x L a) else none
def uM(n:Nat)(c:EB)(b:ES)(x:EX):EX:=cL c b x n
@[simp] def be(M:Str->Str->Option GX)(o:EE)(I:Str)(a:lr)(L:Lc)(S:aL):CH:=bC (o L S) λd h=>match d with
 | .ref i=>match h[i]? with
  |some (.ins c k _)=>match M c I with
   |some g=>if k.contains I=true then none else bC (a L h) λvs x=>(g (.ref i::vs) x).map λz=>(z.1,L,z.2)
   |none=>none
  |_=>none
 |_=>none
section
variable{X:Cx}{cu bs cs Q:List Stmt}{e o:Expr}{es:Ab}{B L:Pos}{f0 fb:ES}{f g fx:EX}{E:XK}{qa:EB}{n:Nat}{fo:EE}{z:lr}{I:Str}{M:Str->Str->Option GX}
theorem MH(P:PT X c (tQ X.K qa))(o:gb X bs (tX X E f))(K:gb X cs (tX X E g)):PS X (.If c bs cs B) (tX X E (d8 qa f g)):=(FC P o K).imp' λD J H A=>by
 obtain⟨F,m,L,S,x,u,i,r,l,q,k⟩:=A;obtain⟨c,n,z,q⟩:=ah q;refine⟨F,m,L,S,c,n,r,l,z,λw j C s y=>?_⟩;cases c with
 |true=>exact⟨w,j,L,n,x,u,i,y,l.mono s,q,λe h t a od v p b d=>k e h t a od (s.trans v) p b d⟩
 |false=>exact⟨w,j,L,n,x,u,i,y,l.mono s,q,λe h t a od v p b d=>k e h t a od (s.trans v) p b d⟩
theorem Dt(hp:PassesOwn (model X.p X.w) X.A X.e X.xe)(hc:PT X c (tQ X.K qa))(hb:gb X Q (iG X.K fb))(hx:gb X Q (tX X E fx)):PS X (.While c Q [] B) (tX X E (uM n qa fb fx)):=
 (tu hp hc (GH hb hx)).imp' λD J H hz=>by
  obtain⟨F,m,L,S,x,o,P,r,l,q,k⟩:=hz;refine⟨λn N v=>∃h a L2 s,Stp F m H h a v/\Rel X.K h v a s/\RL X.K h v a N L2/\cL qa fb fx n L2 s=some (x,o,P),⟨n,F,m,L,S,.refl,r,l,q⟩,?_⟩;rintro n N v ⟨h,a,L2,s,I,r2,G,V⟩;cases n with
  |zero=>cases V
  |succ n=>
   obtain⟨c,u,Z,e⟩:=ah (show bC (qa L2 s) _=_ from V);refine⟨h,a,L2,s,c,u,r2,G,Z,λM T H3 t W=>?_⟩;cases c with
   |false=>cases e
   |true=>
    rw[ai rfl]at e ⊢;refine⟨λw f=>∃R,R < n+1/\∃h a L2 s,Stp F m H h a f/\Rel X.K h f a s/\RL X.K h f a w L2/\cL qa fb fx R L2 s=some (x,o,P),λ_ _ z=>z,?_⟩;cases C:fb L2 u with
    |none=>rw[C]at e;exact .inr ⟨M,T,L2,u,x,o,P,W,G.mono t,e,λw p i f od y j g xd=>k w p i f od (I.trans (t.trans y)) j g xd⟩
    |some z=>
     obtain⟨b,K,A⟩:=z;rw[C]at e;refine .inl ⟨M,T,L2,u,b,K,A,W,G.mono t,C,λw p i f y j g=>?_⟩;cases b with
     |nx=>exact⟨n,h7 _,p,i,K,A,I.trans (t.trans y),j,g,e⟩
     |ct=>exact⟨n,h7 _,p,i,K,A,I.trans (t.trans y),j,g,e⟩
     |bk=>cases e
     |rt d=>cases e
theorem xT(G:FnOk X.p X.w X.K X.g X.b (ux X.p X.w) k fa N ps (AE X.K gx))(y:Room k X.A)(w:Binds X.K N ps [])(S:bo X.K mainGlobals l=some (some (.ref C)))
  (I:Inv X j J H s) (v:bi vs us) (q:AE X.K gx vs H b (λc od x=>c=.ref C/\kP X l od J x)):wx X (call (.ref fa) us) (EP X j J b) X.xe s:=by
 have g:us.length=ps.length:=by rw[<- v.length];exact G.len _ _ _ _ q
 refine hI (hJ (G.run X.A X.k s H ⟨us,[]⟩ us vs b _ y I.env0 (by have:=w s us I.kIn (by simpa using g);simpa using this) v q) λK P h=>?_);cases K with
 |error D=>obtain⟨a,c,t,m,B,od,rfl,os,r,un,n,i,p,e,d,f,A,rfl,F⟩:=h;exact F C S j H s (λc o x=>c=.ref C/\o=od/\x=m) _ P I ⟨a,.ref C,t,m,B,od,rfl,os,r,un,n,i,p,e,d,f,A,rfl,rfl,rfl⟩ λc o x z=>z
 |ok f=>
  cases f with
  |ret u=>exact I.after h
  |next=>exact False.elim h
  |brk=>exact False.elim h
  |cont=>exact False.elim h
def Iz(X:Cx)(M:Str->Str->Option GX):Prop:=∀c I g,M c I=some g->∃C k f d p,eX X.K c C/\Cls X.K C/\Meth X.K C I f/\FnOk X.p X.w X.K X.g X.b (ux X.p X.w) k f d p (AE X.K g)/\zq X.K g/\Room k X.A/\Binds X.K d p []
theorem tR(q:be M fo I z k S=some (x,b,r)):∃i h c s e g vs a,fo k S=some (.ref i,h)/\h[i]? = some (.ins c s e)/\M c I=some g/\¬s.contains I=true/\z k h=some (vs,a)/\g (.ref i::vs) a=some (x,r)/\b=k:=by
 obtain⟨d,h,n,q⟩:=ah q;cases d with
 |p w=>cases q
 |ref i=>
  dsimp only at q;split at q
  .rename_i c s e u;split at q
   .rename_i g t;split at q
    .cases q
    .rename_i v;obtain⟨vs,a,f,q⟩:=ah q;obtain⟨⟨l,j⟩,m,q⟩:=dJ.mp q;cases q;exact⟨i,h,c,s,e,g,vs,a,n,u,t,v,f,m,rfl⟩
   .cases q
  .cases q
theorem F0(hM:Iz X M)(ho:PE X o (tE X.K fo))(ha:PA X (e::es) (s0 X.K z))(N:starEach (e::es) X.e=(false,eval e X.e)::starEach es X.e)(E:(backTo B (starEach es X.e)).any (·.1)=false)
  (ht:eval (.Call (.Attribute o I L) (e::es) [] B) X.e=(do
   let ov <- eval o X.e
   standAt L.atName
   let (f,first) <- holding [ov] (getMethod ov I pl)
   callWith B f first (backTo B (starEach (e::es) X.e)) (backToKw B (keywordEach [] X.e)))) :
  PE X (.Call (.Attribute o I L) (e::es) [] B) (DO X (be M fo I z)):=λj s J H Q h R=>by
 obtain⟨F,m,n,S,x,Z,S',r,l,q,kk⟩:=R;obtain⟨i,S1,c,ks,ds,gx,vs,S2,e1,hs,hg,hk,e2,eg,rfl⟩:=tR q;obtain⟨Cc,k,f,fd,ps,ec,hc,hm,G,cl,hr,hb⟩:=hM c I gx hg;obtain⟨C,ns⟩:=cl _ _ _ _ eg;refine pY (pl:=pl) (cR (ho j s J H (λy t=>∃a d b,y=.ref a/\t a=some (.ins Cc d b)/\b.lookup I=none/\s0 X.K z J t λT g=>AE X.K gx (y::T) g Q (λP od K=>P=.ref C/\kP X x.1 od J K)) h ⟨F,m,Z,S,.ref i,S1,r,l,e1,λv F1 m1 t p r1 p1=>?_⟩) λu p ⟨y,t,V,rx,a,d,b,ex,ea,lo,q1⟩=>?_) ht
 .obtain⟨a,rfl,D⟩:=id p1;obtain⟨C',d,b,A,hH,rfl,rs⟩:=r1.obj i a _ D hs;cases eX.inj ec A;refine⟨a,d,b,rfl,hH,mU (by simpa using hk),F1,m1,Z,S1,vs,S2,r1,l.mono p,e2,λxs F2 m2 g w r2 p2=>?_⟩;exact⟨F2,m2,.ref i::vs,S2,x,S',r2,⟨_,_,rfl,RD.mono w p1,p2⟩,eg,λF3 m3 K od s3 r3 xd=>⟨C,ns,rfl,kk J F3 m3 K od (p.trans (w.trans s3)) r3 (l.mono (p.trans (w.trans s3))) xd⟩⟩
 subst ex;obtain rfl:u=Value.ref a:=rx;refine io V ea hc hm lo ?_;refine nk (first:=[.ref a]) (h₀:=X.b) h.o.mod.kin hm.kp (cR (ha B j p J t _ V q1) λus w R=>?_) N E;obtain⟨T,g,W,rv,q2⟩:=R;refine⟨W.kIn,?_⟩;exact xT (us:=.ref a::us) (vs:=.ref a::T) G hr hb ns W (.cons rfl rv) q2
theorem Dq(hM:Iz X M)(ho:PE X o (tE X.K fo))
  (ht:eval (.Call (.Attribute o I L) [] [] B) X.e=(do
   let ov <- eval o X.e
   standAt L.atName
   let (f,first) <- holding [ov] (getMethod ov I pl)
   callWith B f first (backTo B (starEach [] X.e)) (backToKw B (keywordEach [] X.e)))) :
  PE X (.Call (.Attribute o I L) [] [] B) (DO X (be M fo I aR)):=λj s J H Q h hz=>by
 obtain⟨F,m,e,S,x,L',S',r,l,q,kk⟩:=hz;obtain⟨i,P,c,ks,ds,D,vs,S2,e1,hs,hg,hk,e2,A,rfl⟩:=tR q;cases e2;obtain⟨W,k,f,fd,ps,ec,hc,E,G,cl,hr,hb⟩:=hM c I D hg;obtain⟨C,N⟩:=cl _ _ _ _ A;refine pY (pl:=pl) (cR (ho j s J H (λy b=>∃a d n,y=.ref a/\b a=some (.ins W d n)/\n.lookup I=none/\AE X.K D [y] b Q (λw od t=>w=.ref C/\kP X x.1 od J t)) h ⟨F,m,L',S,.ref i,P,r,l,e1,λv Z m1 b K T R=>?_⟩) λu K ⟨y,b,p,rx,a,d,n,ex,ea,lo,q1⟩=>?_) ht
 .obtain⟨a,rfl,z⟩:=id R;obtain⟨C',d,n,g,hH,rfl,rs⟩:=T.obj i a _ z hs;cases eX.inj ec g;exact⟨a,d,n,rfl,hH,mU (by simpa using hk),Z,m1,[.ref i],P,x,S',T,⟨_,_,rfl,R,rfl⟩,A,λF3 m3 t od V r3 xd=>⟨C,N,rfl,kk J F3 m3 t od (K.trans V) r3 (l.mono (K.trans V)) xd⟩⟩
 subst ex;obtain rfl:u=Value.ref a:=rx;refine io p ea hc E lo ?_;exact zV (first:=[.ref a]) p.kIn E.kp (xT (us:=[.ref a]) (vs:=[.ref a]) G hr hb N p (.cons rfl .nil) q1)
end
section
variable{X:Cx}{j:PN}{J:L2.St}{H:Hp}{s:Shared}
theorem vf(l:Leaves X E)(I:Inv X j J (upd (upd H e (.ext φ)) k (.xd z)) s)(R:H e=none)(A:k≠e)(C:X.z.heap.get? e=none)
  (p:s.heap.get? e=some N) (P:N.data=.fields vs) (y:N.dict=some k) (W:vs[0]? = some a0) (v1:vs[1]? = some .none) (q:E N.cls (some k) (upd H k (.xd z))):X.xe (.ref e) s:=by
 have S:X.A.frames=some (X.e::X.o):=by rw[<- l.stk];exact I.o.frames
 have ge:upd (upd H e (.ext φ)) k (.xd z) e=some (.ext φ):=by rw[aM (bZ A),aX]
 have g:∀b,b≠e->upd (upd H e (.ext φ)) k (.xd z) b=upd H k (.xd z) b:=λb h=>by
  by_cases f:b=k
  .subst f;rw[aX,aX]
  .rw [aM f,aM h,aM f]
 have K:upd H k (.xd z) e=none:=by rw[aM (bZ A)];exact R
 have i:∀b o,b≠e->s.heap.get? b=some o->b ∉ iV X.k->(ni s.heap (e::iV X.k)).get? b=some o:=λb o h x n=>zX _ x λm=>(av.mp m).elim h n;have r:(ni s.heap (e::iV X.k)).get? e=none:=zY _ (List.Mem.head _);have trk:∀b u,upd H k (.xd z) b=some u->b≠e/\b ∉ iV X.k:=λb u h=>by
  have nb:b≠e:=λw=>by rw[w,K]at h;cases h
  exact⟨nb,λw=>by have:=I.stkFree b w;rw[g b nb,h]at this;cases this⟩
 have D:s.heap.FunFrames (ni s.heap (e::iV X.k)) (X.e::X.o):=by rw[<- l.stk];exact PySem.W.funFrames_hide I.stack λd p b f=>.tail _ (js.mpr ⟨d,p,f⟩)
 rw[l.xe];refine bm ((Kd.pi X.e (.ref e)).wpAny (wpAny_leaving_firstW (Q:=λ_ B=>∃a,Heap.LeftW (ni s.heap (e::iV X.k)) (X.e::X.o) e N.cls a0 s.heap a/\B={ s with heap:=a }) S D l.frm p (λb o h=>zT _ h) r P v1 W λa h=>⟨a,h,rfl⟩)) (λ_ B h=>?_) λ_ _ h=>h.1;obtain⟨⟨a,⟨G,⟨_,_,L⟩,M,_⟩,rfl⟩,F⟩:=h;have V:Iy e (some k) a:=Iy.dk ⟨N,vs,p,y,P,λw=>nomatch w⟩ F;have tr:∀b u,upd (upd H e (.ext φ)) k (.xd z) b=some u->(∀ψ,u≠.ext ψ)->upd H k (.xd z) b=some u:=λb u h T=>by rw[<- g b (λw=>by rw[w,ge]at h;cases h;exact T _ rfl)];exact h
 have un:Un (iV X.k) [] (upd (upd H e (.ext φ)) k (.xd z)) (upd H k (.xd z)) s.heap s.heap:=by refine⟨λb o h n _ _=>h,λb o h n _ _=>⟨o.slots,h⟩,λb o h n _=>?_,λb o h _=>⟨o,h⟩,λb Z h=>tr b _ h (λ_ w=>nomatch w),λb o u h=>tr b _ h (λ_ w=>nomatch w),λb ps h=>⟨#[],by rw[Array.append_empty];exact tr b _ h (λ_ w=>nomatch w)⟩⟩;rw[<- g b (λw=>by rw[w,ge]at n;cases n)];exact n
 have t:iP X.p X.w (upd H k (.xd z)) s.heap:=λb v h=>(I.h b v (by rw[g b (trk b v h).1];exact h)).stay (λ_ _ _ q=>q) (λc x=>tr c _ x (λ_ w=>nomatch w)) λc Z x=>tr c _ x (λ_ w=>nomatch w);exact K2 l I un C (λb o h x n=>⟨o,i b o h x n⟩) (λb o h x _ n=>i b o h x n) t (λb u o h x=>i b o (trk b u h).1 x (trk b u h).2) K (Kd.DK.up F) ⟨G,r,L,M⟩ V rfl I.bare q
end
@[simp] def b'(d f:Str)(v:EV)(L:Lc)(S:aL):CH:=bC (v L S) λp h=>some ((d,some (f,p)),L,h)
section
variable{X:Cx}{E:XK}
theorem z_{d f:Str}{D:Addr}{arg:Expr}{fv:EV}{np y B:Pos}(R:Leaves X E)(i:X.c=true)(hr:X.A.depth+5 < recursionLimit)(gl:Gl X d)(ns:bo X.K mainGlobals d=some (some (.ref D)))(V:X.g d=some (.ref D))(G:(d == ("__debug__":Str))=false)(q:sL X.K D f)
  (ha:PE X arg (tV X.K fv)) (K:starEach [arg] X.e=[(false,eval arg X.e)]) :
  PS X (.Raise (some (.Call (.Name d np) [arg] [] y)) none B) (tX X E (b' d f fv)):=λj s J H D' I hz=>by
 obtain⟨F,m,L,S,x,L',S',r,l,Z,k⟩:=hz;obtain⟨p,S1,e1,Z⟩:=ah Z;cases Z;obtain⟨g,fI,fd,ps,xi,fu,hb⟩:=q;obtain⟨tl,N,oC,oI,lk,xo,q4,q5,q6,Q,M⟩:=xi;have T:=zU I.kIn q4;rw[arm_exec_Raise];refine ae (mZ ?_);refine Kx.uZ xo (T.hasType wc.hasBase) (I.o.hd i) ?_;refine ae ?_;refine Kx.zj (N:=N) (fI:=fI) (tl:=tl) (mp:=X.b.nsMap N) (o:=oC) (oI:=oI) (by rw[K];rfl) (jw I gl V ⟨rfl,?_⟩ G);rw[K];refine qC (mw ?_);show wpAny _ _ (eval arg X.e) _ _ s;refine bm (ha j s J H (λv a=>∃h w,Stp F m H h w a/\Rel X.K h a w S'/\RP X.K h a p v) I ⟨F,m,L,S,p,S',r,l,e1,λv h w H1 A r1 W=>⟨h,w,A,r1,W⟩⟩) (λu s2 z=>qB ?_) λ_ _ z=>z;obtain⟨v,a,n,ru,h,w,A,r1,W⟩:=z;refine⟨rfl,(by show 1≤sizeLine;decide),⟨xo,n.kIn _ _ lk,zU n.kIn q4,(Heap.Ns.of_isNs (PySem.W.isNs_of_in I.o.mod.kin q5)).keeps n.bk,q6 _ I.o.mod.kin,n.kIn _ _ Q,M⟩,λh1 e hx=>?_⟩;have b0:X.z.heap.get? e=none:=by
  cases q:X.z.heap.get? e with
  |none=>rfl
  |some o=>obtain⟨o',z⟩:=n.base.there _ o q (by rw[R.ex];simp);rw[hx.new]at z;cases z
 refine bm (yS n R.ex rfl (by rw[nV];show X.A.depth+1+4 < _;lia) hx (fu _ _ _ _) (λs' z=>hb s' e u z) g ru) (λr s3 z=>?_) λ_ _ z=>z.elim;obtain⟨rfl,c,n1,n2,ne,C⟩:=z;refine⟨rfl,ae (mZ (aJ ?_))⟩;obtain⟨⟨t,he⟩,_,_⟩:=(show cj X.p X.w _ s3.heap e (.ext (sd e D c)) from C.h e _ (by rw[aM (bZ ne),aX]));have P:Grow h a (λb=>h b\/b=c) (upd a c (.xd [(f,v)])):=bY n2;exact⟨e,t,some c,#[],rfl,C.kIn _ _ lk,he,vf R C n1 ne b0 he rfl rfl rfl rfl (k J _ w _ (some c) (A.trans P.stp) (r1.grow P) (l.mono (A.trans P.stp)) ⟨c,v,rfl,.inr rfl,aX,RP.grow P W⟩ D ns)⟩
end
structure AnsOkT(K:FG)(ans:Str->Option Bool)(us:LV):Prop where
 non:kW K (.type "NoneType") us=some false
 exc:∀c b C,ans c=some b->bo K mainGlobals c=some (some (.ref C))->ExcCl K C/\nh K (.ref C) (.ref C)=some true/\kW K (.ref C) us=some b
inductive ClVs:LV->List V->Prop
 |nil:ClVs [] []
 |cons {u v us vs}:Lf u=some v->ClVs us vs->ClVs (u::us) (v::vs)
variable{us:LV}{vs:List V}
theorem ClVs.eq(h:ClVs us vs)(r:bi vs k):k=us:=by
 induction h generalizing k with
 |nil=>cases r;rfl
 |cons h _ i=>
  cases r with
  |cons x a=>rw[Cb h x,i a]
theorem ClVs.len(h:ClVs us vs):vs.length=us.length:=by
 induction h with
 |nil=>rfl
 |cons _ _ i=>simp[i]
section
variable{X:Cx}{a:Expr}{fa:EE}{p B:Pos}{y:Str->Option Bool}
theorem zw(R:ClVs us vs)(K:AnsOkT X.K y us) :
  dc X (.builtin "isinstance") (λg H Q=>∃F m S d b x t,g=[x,.ref t]/\H t=some (.tup vs)/\Rel X.K F H m S/\RD X.K F H m d x/\y' y d S=some b/\Q (.bl b) H):=by
 intro j s J H g ws Q I r h;obtain⟨F,m,S,d,b,x,t,rfl,N,Z,pd,e,q⟩:=h;obtain⟨w,u2,rfl,u,rv⟩:=vals2 r;cases (show u2=Value.ref t from rv);obtain⟨_,T,rs,o,v,⟨A,n,B⟩,k⟩:=I.h t _ N;cases R.eq rs;obtain⟨P,i,p,l⟩:=o;cases A;cases B;cases k;have f:∀tk,EP X j J Q (.bool b) { s with toks:=tk }:=λtk=>⟨.bl b,H,I.tok _,rfl,q⟩
 unfold y' at e;split at e
 .cases e;cases (show x=.non from pd);cases (show w=Value.none from u);exact zM uE I.kIn trivial v K.non (λz=>nomatch z) f
 .split at e
  .next a c _ M=>obtain⟨ad,rfl,L⟩:=pd;cases (show w=Value.ref ad from u);obtain⟨C,od,V,G,_⟩:=Z.obj _ ad _ L M;obtain⟨D,E,f3⟩:=K.exc c b C e V;have W:=I.h ad _ G;exact zM (tW D E) I.kIn W.1 v f3 (λz=>nomatch z) f
  .cases e
 .cases e
theorem Jd(v:ClVs us vs)(P:us.length≤100)(K:AnsOkT X.K y us)(o:Gl X "isinstance")(A:X.g "isinstance"=none)(j:PE X a (tE X.K fa))(z:PA X cs (λ_ H Q=>Q vs H))(c:∀es e,starEach (a::es) e=(false,eval a e)::starEach es e) :
  PE X (.Call (.Name "isinstance" p) [a,.Tuple cs N tp] [] B) (tV X.K (km y fa)):=
 (i7 (zw v K) o A qA (d4 j (d4 (A5 z) ij rfl) (by rw[c])) (by decide) (by decide) (by rw[c]) rfl).imp' λJ H Q C=>by obtain⟨F,m,L,S,d,G,r,l,q,k⟩:=C;obtain⟨x,I,g,q⟩:=ah q;obtain⟨b,i,q⟩:=dJ.mp q;cases q;refine⟨F,m,L,S,_,_,r,l,g,λh f w E s u D=>⟨?_,λt n=>⟨f,w,_,x,b,h,t,rfl,aX,u.grow (bQ n),RD.mono (bQ n).stp D,i,k _ f w _ (s.trans (bQ n).stp) (u.grow (bQ n)) rfl⟩⟩⟩;rw[v.len];exact bN P (by decide)
end
noncomputable def zz:List D->Option (List P)
 | []=>some []
 | .p v::r=>(zz r).map λvs=>v::vs
 |_::_=>none
theorem yD{K:FG}{F:Aa}{H:Hp}{m:List Addr}:∀{d:List D}{s:List V}{ps:List P},zz d=some ps->dQ K F H m d s->cI K F H ps s
 | [],s,ps,h,r=>by cases h;exact r
 | .ref _::_,_,_,h,_=>by cases h
 | .p v::d,s,ps,h,r=>by obtain⟨vs,a,rfl⟩:=dJ.mp h;obtain⟨x,n,rfl,p,e⟩:=r;exact⟨x,n,rfl,p,yD a e⟩
theorem yC:∀ps:List P,zz (ps.map .p)=some ps
 | []=>rfl
 |p::ps=>by simp[zz,yC ps]
def LF(d:D)(i j:Option Int)(S:aL):Option P:=match d with
 | .p x=>g9 x i j
 | .ref k=>match S[k]? with
  |some (.lst s)=>(zz s).map λp=>.lst (cut p i j)
  |some (.fz v)=>g9 v i j
  |_=>none
@[simp] def rh(a:EE)(lo s:EO)(L:Lc)(S:aL):tyV:=bC (a L S) λd x=>bC (lo L x) λi e=>bC (s L e) λj h=>(LF d i j h).map λv=>(v,h)
section
variable{X:Cx}
theorem FA{F:Aa}{m:List Addr}{H:Hp}{S:aL}{x w:P}{v:V}{i j:Option Int}{Q:VK}(r:Rel X.K F H m S)(b:RP X.K F H x v)(q:g9 x i j=some w)(k:∀u c f,Stp F m H c m f->Rel X.K c f m S->RP X.K c f w u->Q u f) :
  ((∃a s,v=V.ref a/\iA X.K H a s/\∀p,H p=none->Q (.ref p) (upd H p (.lst (oX s i j))))\/(∃a s,v=V.ref a/\pL X.K H a s/\¬(HT.dw s.length 0 i=0/\HT.dw s.length s.length j=s.length)/\∀p,H p=none->Q (.ref p) (upd H p (.tup (oX s i j))))\/∃a s,v=V.ref a/\pL X.K H a s/\HT.dw s.length 0 i=0/\HT.dw s.length s.length j=s.length/\Q (.ref a) H)\/∃z,v=.str z/\z.length≤sizeLine/\Q (.str (Txt.slice z i j)) H:=by
 cases x with
 |lst d=>cases q;obtain⟨a,s,rfl,ta,e⟩:=b;exact .inl (.inl ⟨a,s,rfl,ta.sq,λp h=>k _ _ _ (bY h).stp (r.grow (bY h)) (.newLst h (e.cut i j))⟩)
 |ro d=>cases q;obtain⟨a,s,rfl,ta,e⟩:=b;exact .inl (.inl ⟨a,s,rfl,ta.sq,λp h=>k _ _ _ (bY h).stp (r.grow (bY h)) (.newLst h (e.cut i j))⟩)
 |tup d=>
  obtain⟨a,s,rfl,ta,e⟩:=b;cases q;by_cases n:HT.dw s.length 0 i=0/\HT.dw s.length s.length j=s.length
  .have t:cut d i j=d:=by
    unfold cut;rw[e.length,n.1,n.2,ke,xa,<- e.length,wK]
   rw[t]at k;exact .inl (.inr (.inr ⟨a,s,rfl,ta.sq,n.1,n.2,k _ F H .refl r ⟨a,s,rfl,ta,e⟩⟩))
  .exact .inl (.inr (.inl ⟨a,s,rfl,ta.sq,n,λp h=>k _ _ _ (bQ h).stp (r.grow (bQ h)) (.newTup h (e.cut i j))⟩))
 |str z=>
  cases (show v=.str z from b);simp only[g9]at q;split at q
  .rename_i t;cases q;exact .inr ⟨z,rfl,fA t,k _ F H .refl r rfl⟩
  .cases q
 |_=>cases q
theorem Ms{e:Expr}{lo D:Option Expr}{fa:EE}{C A:EO}{B p2:Pos}(he:PE X e (tE X.K fa))(hl:PO X lo (tO X.K C))(hh:PO X D (tO X.K A)):PE X (.Subscript e (.Slice lo D none p2) B) (tV X.K (rh fa C A)):=
 (tB ((xR.or (AG.or tf)).or AH) he hl hh).imp' λJ H Q hz=>by
  obtain⟨F,m,L,S,d,o,r,l,q,k⟩:=hz;obtain⟨x,K,V,q⟩:=ah q;obtain⟨i,P,W,q⟩:=ah q;obtain⟨j,S3,Z,q⟩:=ah q;obtain⟨d,h,q⟩:=dJ.mp q;cases q;refine⟨F,m,L,S,x,K,r,l,V,λv M m1 H1 y r1 p1=>?_⟩;refine⟨M,m1,L,K,i,P,r1,l.mono y,W,λN m2 H2 z r2=>?_⟩;refine⟨N,m2,L,P,j,o,r2,(l.mono y).mono z,Z,λR c T I b=>?_⟩;have G:=RD.mono I (RD.mono z p1);have ss:=y.trans (z.trans I);have g:∀u f s,Stp R c T f c s->Rel X.K f s c o->RP X.K f s d u->Q u s:=λu f s s4 r4 p4=>k u f c s (ss.trans s4) r4 p4;unfold LF at h;cases x with
  |p x=>exact FA b G h g
  |ref n=>
   obtain⟨a,rfl,E⟩:=id G;dsimp only at h;split at h
   .rename_i ds w;obtain⟨ps,h1,rfl⟩:=dJ.mp h;obtain⟨xs,hH,rs⟩:=b.obj n a _ E w;have ra:=yD h1 rs;exact .inl (.inl ⟨a,xs,rfl,iA.of hH,λp t=>g _ _ _ (bY t).stp (b.grow (bY t)) (.newLst t (ra.cut i j))⟩)
   .rename_i v w;exact FA b (b.obj n a _ E w) h g
   .cases h
end
noncomputable def lq(E:List (Str×LS))(R:LS)(s:LS)(c:Str):Option Bool:=if R.contains c=true then (E.lookup c).map λa=>s.any λt=>a.contains t else none
end Ev
set_option tactic.hygienic false
namespace Ev
open PySem PySem.Spec PyProof.Rows L2
def jH(g:GF)(ps:List P):Option P:=match g (ps.map .p) [] with
 |some (d,S)=>(rB 9 d S).map (·.1)
 |none=>none
@[simp] noncomputable def cA:Option (Fl×Lc×aL)->Option (D×aL)
 |some (.rt d,_,S)=>some (d,S)
 |some (.nx,_,S)=>some (.p .non,S)
 |_=>none
def bR(p n:Nat)(b:ES):GF:=λd S=>if d.length=p then cA (b (d.map some++List.replicate (n-d.length) none) S) else none
theorem Rel.nil{K:FG}{F:Aa}{H:Hp}(f:∀a,F a->H a≠none):Rel K F H [] []:=⟨rfl,by simp,by simp,by simp,by simp,f⟩
theorem nK{K:FG}{g:GF}{n:List V}{H:Hp}{Q:VK}{E:XK}(h:LD K (jH g) n H Q E):oF K g n H Q E:=by
 obtain⟨F,s,d,t,r,q,k⟩:=h;unfold jH at q;cases e:g (s.map .p) [] with
 |none=>rw[e]at q;cases q
 |some z=>
  obtain⟨a,S⟩:=z;rw[e]at q;dsimp only at q;cases x:rB 9 a S with
  |none=>rw[x]at q;cases q
  |some l=>obtain⟨p,o⟩:=l;rw[x]at q;cases q;refine⟨F,[],s.map .p,[],a,S,.nil t,dQ.ofP r,e,λv y P b i m u=>?_⟩;obtain⟨f,j,w,_,c⟩:=k_ 9 x m u;exact k v f b ((i.trans j).toGrow w.ft) c
theorem FnOk.pure{P:Program}{w:World}{K:FG}{m:SV}{base:Heap}{f:Addr}{d:FuncData}{ps:LS}{k:Nat}{g:GF}(G:FnOk P w K m base ow k f d ps (oF K g)):FnOk P w K m base ow k f d ps (LD K (jH g)):=
 FnOk.imp G λ_ _ _ _ h=>nK h
theorem dQ.toSt{K:FG}{F:Aa}{H:Hp}{m:List Addr}{s:List D}{a:List V}{N:LS}(r:dQ K F H m s a):RL K F H m (L2.start N a) (s.map some++List.replicate (N.length-s.length) none):=by
 have l:=r.length;refine⟨by unfold L2.start;simp[l],λi d e=>?_⟩;by_cases h:i < s.length
 .rw [d1 (by simpa using h),jr]at e;cases q:s[i]? with
  |none=>rw[q]at e;cases e
  |some v=>rw[q]at e;cases e;obtain⟨x,n,p⟩:=r.get q;refine⟨x,?_,p⟩;unfold L2.start;rw[d1 (by simpa[<- l] using h),jr,n];rfl
 .rw [gp (by simpa using h),qL]at e;split at e<;>cases e
theorem HJ{P:Program}{w:World}{K:FG}{i:SV}{base:Heap}{x u:Str}{st:Stmt}{f:Addr}{p:FuncData}{N ps:LS}{k:Nat}{b:ES}(F:Fun K x u st f p)(S:FnScope N ps (ac st))
  (G:∀(c:Value) (A:Around) (o:List Env) (s:Shared) (H:Hp) (E:XK),Room k (A.deeper (envOfC u (ac st) s.heap.objs.size f c)) ->
   gb (lX ow P w K i base N u (ac st) f c A o s H E).nox (aA st) (iG K b)):FnOk P w K i base ow (k+1) f p ps (oF K (bR ps.length N.length b)):=by
 refine F.ok S (λR H Q E h=>?_) (λc A o s H R Q E I h=>⟨_,G c A o s H E I,?_⟩)
 .obtain⟨F,m,a,S,d,C,y,r,q,k⟩:=h;rw[<- r.length];unfold bR at q;split at q
  .assumption
  .cases q
 .obtain⟨F,m,a,S,d,C,y,r,q,k⟩:=h;unfold bR at q;split at q
  .cases e:b (a.map some++List.replicate (N.length-a.length) none) S with
   |none=>rw[e]at q;cases q
   |some z=>
    obtain⟨l,L,D⟩:=z;rw[e]at q;refine⟨F,m,_,S,l,L,D,y,r.toSt,e,λT n g t B j W=>?_⟩;cases l with
    |nx=>cases q;exact k .non n g t B j rfl
    |bk=>cases q
    |ct=>cases q
    |rt V=>intro v M;cases q;exact k v n g t B j M
  .cases q
theorem BV{P:Program}{w:World}{K:FG}{g:SV}{base:Heap}{f:Addr}{x:FuncData}{ps:LS}{k:Nat}:FnOk P w K g base ow k f x ps (oF K λ_ _=>none):=by
 have n:∀v H Q E,¬oF K (λ_ _=>none) v H Q E:=λv H Q E h=>by obtain⟨F,m,b,S,d,e,_,_,q,_⟩:=h;cases q
 exact⟨λv H Q E h=>absurd h (n v H Q E),λA o s H a u v Q E _ _ _ _ h=>absurd h (n v H Q E)⟩
structure Tr where
 v:Option EV:=none
 e:Option EE:=none
 b:Option EB:=none
 w:Option EB:=none
def Tr.ofV(f:Option EV):Tr:=⟨f,f.map U,f.map λg=>bT (U g),f.map bV⟩
def Tr.ofC(f:Option EV):Tr:=⟨f,f.map U,f.map bV,f.map bV⟩
def Tr.ofE(f:Option EE):Tr:=⟨f.map vE,f,f.map bT,f.map λg=>bV (vE g)⟩
def Tr.ofB(b w:Option EB):Tr:=⟨w.map vB,w.map λg=>U (vB g),b,w⟩
structure Cn where
 N:LS
 own:LS
 deep:LS
 refs:LS
 ks:List (Str×NameKind)
 F:Str->Option GF
 G:Str->Option P
 A:Str->Str->Bool
 M:Str->Str->Option GF
 I:Str->Option GF
 E:List (Str×LS)
 R:LS
 Y:Str->Option GX
 W:Str->Str->Option GX
noncomputable def gO:LS->Str->Option Nat
 | [],_=>none
 |y::r,x=>if y=x then some 0 else (gO r x).map (·+1)
set_option tactic.hygienic true in
theorem n3:∀{N:LS}{x:Str}{i:Nat},gO N x=some i->N[i]? = some x
 | [],_,_,h=>by cases h
 |y::r,x,i,h=>by
  unfold gO at h;split at h
  .rename_i e;cases h;simp[e]
  .cases q:gO r x with
   |none=>rw[q]at h;cases h
   |some j=>rw[q]at h;cases h;simpa using n3 q
theorem lA:∀{N:LS}{x:Str}{i:Nat},N.Nodup->N[i]? = some x->gO N x=some i
 | [],_,_,_,h=>by simp at h
 |y::r,x,0,_,h=>by
  have:y=x:=by simpa using h
  unfold gO;rw[ai this]
 |y::r,x,i+1,d,h=>by
  have a:r[i]? = some x:=by simpa using h
  have n:¬y=x:=λe=>by subst e;exact(fk.mp d).1 (dj a)
  unfold gO;rw[ar n,lA (fk.mp d).2 a];rfl
noncomputable def bx(s:List (Str×NameKind))(x:Str)(l:List NameKind):Bool:=match s.lookup x with
 |some k=>l.contains k
 |none=>false
noncomputable def cB(x:Str):Bool:=!(x == ("__debug__":Str)) && !(x == ("__classdict__":Str))
noncomputable def FM(E:List (Str×LS))(t:Str):Bool:=E.any (λx=>decide (x.1=t)) ||decide (t=("ValueError":Str))
noncomputable def kM(E:List (Str×LS))(R:LS)(t c:Str):Option Bool:=if R.contains c=true then (E.lookup c).map λa=>a.contains t else none
noncomputable def CJ:List (Str×Str):=[("NoText","place")]
def Ox:Operator->Option (P->P->Option P)
 | .Add=>some cM
 | .Sub=>some HY
 | .Mult=>some jN
 | .FloorDiv=>some sD
 | .Mod=>some EU
 | .Pow=>some HZ
 |_=>none
def Ov:CmpOp->Option (P->P->Option P)
 | .Lt=>some NM
 | .LtE=>some NN
 | .Gt=>some L6
 | .GtE=>some NP
 |_=>none
def Ib:CmpOp->Option (D->D->aL->Option P)
 | .Eq=>some BU
 | .NotEq=>some IJ
 | .In=>some gE
 | .NotIn=>some ip
 | .Is=>some HH
 |_=>none
def nI:List (Option EV)->Option gc
 | []=>some d_
 |a::r=>a.bind λf=>(nI r).map λg=>aH f g
def oB:List (Option EE)->Option lr
 | []=>some aR
 |a::r=>a.bind λf=>(oB r).map λg=>cg f g
def sU(o:BoolOp):List (Option EB)->Option EB
 | []=>none
 | [a]=>a
 |a::r=>a.bind λf=>(sU o r).map λg=>match o with | .And=>cE f g | .Or=>on f g
def JB(o:Option (Option EV)):Option EO:=match o with
 |none=>some dv
 |some a=>a.map bI
noncomputable def By:Option Expr->Option Str
 |some (.Constant (.str x) _ _)=>some x
 |_=>none
def Gn:List (Option Expr)->List (Option EV)->Option DE
 | [],[]=>some vu
 |k::s,v::h=>(By k).bind λx=>v.bind λf=>(Gn s h).map λr=>dU x f r
 |_,_=>none
noncomputable def BF(t:Str):Option String:=if t=("int":Str) then some "int" else if t=("bool":Str) then some "bool" else if t=("tuple":Str) then some "tuple" else none
def pG(f:Str):Option (List P->Option P):=
 if f=("int":Str) then some eI else if f=("max":Str) then some g_ else if f=("min":Str) then some fX else if f=("str":Str) then some lF else none
noncomputable def Fg:LS:=["len","isinstance","int","bool","tuple","list","str","max","min","dict","range","abs","enumerate","sorted","all","any","sum","set","zip"]
noncomputable def o9(a s:List (Str×NameKind)):List (Str×NameKind):=a.map λ(n,k)=>if (k == .free && s.lookup n == some .cell) then (n,.cell) else (n,k)
def vF(u:Cn)(s:Scope)(N:LS)(t:List Nat)(n:Nat):Bool:=
 decide (s.kind=.function) && s.names.all (λx=>x.2 != .cell) && s.names.all (λx=>x.2 != .local ||s.names.lookup x.1 == some .local)
  && s.names.all (λx=>x.2 != .free ||(s.names.lookup x.1 == some .free && (u.ks.lookup x.1 == some .cell ||u.ks.lookup x.1 == some .free)))
  && decide (u.N=N.take u.N.length) && decide (N.length=u.N.length+n)
  && s.names.all (λx=>x.2 != .local ||match gO u.N x.1 with|some i=>t.contains i|none=>true)
def Hx(u:Cn)(f g:Str):Bool:=decide (f=g) && bx u.ks f [.globalImplicit]
noncomputable def kt{h:Type}:List h->Option h
 | [a]=>some a
 |_=>none
noncomputable def Am{h:Type}:List h->Option (h×h)
 | [a,b]=>some (a,b)
 |_=>none
theorem d6{x:Type}{l:List x}{a:x}(h:kt l=some a):l=[a]:=by
 unfold kt at h;split at h
 .cases h;rfl
 .cases h
theorem rk{x:Type}{l:List x}{a b:x}(h:Am l=some (a,b)):l=[a,b]:=by
 unfold Am at h;split at h
 .cases h;rfl
 .cases h
theorem af{e s:Type}{x:Option e}{f:e->Option s}{r:s}(h:x.bind f=some r):∃a,x=some a/\f a=some r:=by
 cases x with
 |none=>cases h
 |some a=>exact⟨a,rfl,h⟩
theorem ax{e s:Type}{x:Option e}{f:e->s}{r:s}(h:x.map f=some r):∃a,x=some a/\r=f a:=by
 cases x with
 |none=>cases h
 |some a=>cases h;exact⟨a,rfl,rfl⟩
theorem HV{a:Type}{c:Prop}[Decidable c]{f:c->Option a}{x:a}(h:(if q:c then f q else none)=some x):c:=by
 by_cases q:c
 .exact q
 .rw [dif_neg q]at h;cases h
section
variable{e:Expr}
noncomputable def u_(e:Expr):Option Str:=if h:e.ctorIdx=23 then Expr.Name.elim e h λx _=>some x else none
theorem fL{x:Str}(h:u_ e=some x):∃p,e=.Name x p:=by have c:=HV h;revert h;exact Expr.Name.elim e c λ_ p h=>by cases h;exact⟨p,rfl⟩
noncomputable def nE(e:Expr):Option (Ab):=if h:e.ctorIdx=25 then Expr.Tuple.elim e h λs _ _=>some s else none
theorem nD{s:Ab}(h:nE e=some s):∃c p,e=.Tuple s c p:=by have c:=HV h;revert h;exact Expr.Tuple.elim e c λ_ c p h=>by cases h;exact⟨c,p,rfl⟩
noncomputable def BJ(e:Expr):Option (Ab):=if h:e.ctorIdx=24 then Expr.List.elim e h λs _=>some s else none
theorem tZ{s:Ab}(h:BJ e=some s):∃p,e=.List s p:=by have c:=HV h;revert h;exact Expr.List.elim e c λ_ p h=>by cases h;exact⟨p,rfl⟩
noncomputable def IV(e:Expr):Option (Expr×Str×Pos):=if h:e.ctorIdx=20 then Expr.Attribute.elim e h λo m p=>some (o,m,p) else none
theorem sK{o:Expr}{m:Str}{p:Pos}(h:IV e=some (o,m,p)):e=.Attribute o m p:=by have c:=HV h;revert h;exact Expr.Attribute.elim e c λ_ _ _ h=>by cases h;rfl
noncomputable def Pe(e:Expr):Option (Expr×Expr):=if h:e.ctorIdx=21 then Expr.Subscript.elim e h λo i _=>some (o,i) else none
noncomputable def Of(e:Expr):Option (Option Expr×Option Expr×Option Expr):=if h:e.ctorIdx=26 then Expr.Slice.elim e h λi j k _=>some (i,j,k) else none
theorem Gy{i j k:Option Expr}(h:Of e=some (i,j,k)):∃p,e=.Slice i j k p:=by have c:=HV h;revert h;exact Expr.Slice.elim e c λ_ _ _ p h=>by cases h;exact⟨p,rfl⟩
noncomputable def NR(e:Expr):Option (Expr×Ab×Pos):=if h:e.ctorIdx=16 then Expr.Call.elim e h λf a k p=>if k.isEmpty=true then some (f,a,p) else none else none
theorem Ck{f:Expr}{a:Ab}{p:Pos}(h:NR e=some (f,a,p)):e=.Call f a [] p:=by
 have c:=HV h;revert h;exact Expr.Call.elim e c λ_ _ k _ h=>by
  cases k with
  |nil=>cases h;rfl
  |cons _ _=>cases h
end
def pE(e:Expr):Option (Str×Ab):=(NR e).bind λz=>(u_ z.1).map λr=>(r,z.2.1)
theorem jh{e:Expr}{r:Str}{a:Ab}(h:pE e=some (r,a)):∃p c,e=.Call (.Name r p) a [] c:=by obtain⟨⟨f,s,c⟩,x,n⟩:=af h;obtain⟨m,k,b⟩:=ax n;obtain⟨p,rfl⟩:=fL k;cases b;exact⟨p,c,Ck x⟩
def Mb(e:Expr):Option ((Expr×Str×Pos)×Ab×Pos):=(NR e).bind λz=>(IV z.1).map λr=>(r,z.2)
theorem Ir{e o:Expr}{s:Ab}{m:Str}{a p:Pos}(h:Mb e=some ((o,m,a),s,p)):e=.Call (.Attribute o m a) s [] p:=by obtain⟨⟨f,x,c⟩,n,k⟩:=af h;obtain⟨t,b,r⟩:=ax k;cases r;cases sK b;exact Ck n
noncomputable def uV{h:Type}:List h->Option (h×h×h)
 | [a,b,c]=>some (a,b,c)
 |_=>none
theorem yN{x:Type}{l:List x}{a b c:x}(h:uV l=some (a,b,c)):l=[a,b,c]:=by
 unfold uV at h;split at h
 .cases h;rfl
 .cases h
def DM(u:Cn)(T:Expr->Tr)(t e:Expr):Option gc:=(pE e).elim ((T e).v.map IG) λz=>if Hx u z.1 "range"=true then (uV z.2).elim ((kt z.2).bind λa=>(T a).v.map vk) λw=>(T w.1).v.bind λx=>(T w.2.1).v.bind λy=>(T w.2.2).v.map λz=>vj x y z
  else (T e).v.map IG
def Gi(N:LS)(s:List (Str×NameKind))(k:List NameKind)(e:Expr):Option jD:=(u_ e).bind λx=>if bx s x k=true then (gO N x).map g6 else none
def Ap(N:LS)(s:List (Str×NameKind))(k:List NameKind):Ab->Option (List jD)
 | []=>some []
 |e::r=>(Gi N s k e).bind λg=>(Ap N s k r).map λh=>g::h
def DL(N:LS)(s:List (Str×NameKind))(k:List NameKind)(e:Expr):Option jD:=(nE e).elim (Gi N s k e) λh=>(Ap N s k h).map yc
def fK(e:Expr):LS:=((nE e).getD [e]).filterMap u_
noncomputable def lZ(N:LS):LS->LS
 | []=>[]
 |t::r=>if (N.contains t ||(lZ N r).contains t)=true then lZ N r else t::lZ N r
def NS(N:LS)(s:LS):List Nat:=s.filterMap λt=>gO N t
def kZ(u:Cn)(T:Cn->Expr->Tr)(l t iter:Expr)(i:Ab)(s:Scope):Option EV:=
 if (vF u s (u.N++lZ u.N (fK t)) (NS u.N (fK t)) (lZ u.N (fK t)).length && decide (u.N++lZ u.N (fK t)).Nodup)=true then
  (DM u (T u) t iter).bind λh=>(DL (u.N++lZ u.N (fK t)) (o9 s.names u.ks) [.local] t).bind λg=>
   (match i with | []=>some Cs | [c]=>(T ⟨u.N++lZ u.N (fK t),u.own.filter (λx=>!(fK t).contains x),[],u.refs,o9 s.names u.ks,u.F,u.G,u.A,u.M,u.I,u.E,u.R,u.Y,u.W⟩ c).b|_=>none).bind λc=>
   (T ⟨u.N++lZ u.N (fK t),u.own.filter (λx=>!(fK t).contains x),[],u.refs,o9 s.names u.ks,u.F,u.G,u.A,u.M,u.I,u.E,u.R,u.Y,u.W⟩ l).v.map λe=>kn h (NS u.N (fK t)) (lZ u.N (fK t)).length g c e
 else none
def pq(u:Cn):Nat->Expr->Bool
 |0,_=>false
 |n+1,e=>(u_ e).any (u.own.contains ·) ||(Pe e).any (λz=>pq u n z.1) ||(IV e).any (λz=>pq u n z.1) ||(Mb e).any λz=>decide (z.1.2.1=("setdefault":Str)) && pq u n z.1.1
def za(e:Expr):Bool:=[6,20,21,23].contains e.ctorIdx ||(Mb e).isSome
def EF(e:Expr):Bool:=za e ||(pE e).any λz=>!z.2.isEmpty
noncomputable def jb(e:Expr):Bool:=e.ctorIdx == 8
def LC(u:Cn)(o:Option EE)(os:Expr)(m:Str)(s:List (Option EE))(p c:Pos):Tr:=
 if (EF os && (p.endLine == c.line) && decide (s.length < 29))=true then .ofE (o.bind λx=>(oB s).map λa=>aB u.M x m a) else {}
def LL(u:Cn)(o:Expr)(m:Str)(n:Str)(a c:Pos):Bool:=decide (m=n) && pq u 4 o && za o && (a.endLine == c.line)
def Bg:Ab->Option (LS)
 | []=>some []
 |e::r=>(u_ e).bind λx=>(Bg r).map λl=>x::l
def Oi(a:Ab):Option (Expr×LS):=(Am a).bind λz=>(nE z.2).bind λe=>(Bg e).map λt=>(z.1,t)
def KH(u:Cn)(t:Str):Bool:=FM u.E t && bx u.ks t [.globalImplicit] && cB t
def PU(a:Ab):Option (Expr×Str):=(Am a).bind λz=>(u_ z.2).map λt=>(z.1,t)
def L8(s:List Comprehension):Option (Expr×Expr×Ab):=(kt s).bind λg=>if g.is_async=0 then some (g.target,g.iter,g.ifs) else none
def Fy(u:Cn)(a:Expr):Option (List (Str×P)):=(u_ a).bind λx=>if (bx u.ks x [.globalImplicit] && cB x)=true then (u.G x).bind λv=>match v with
  | .dct k s=>DN k s
  |_=>none
 else none
def Ob(u:Cn)(T:Expr->Tr)(f:Str)(s:Ab):Tr:=if (bx u.ks f [.globalImplicit] && cB f && !s.isEmpty)=true then
  (u.I f).elim ((u.F f).elim
   ((kt s).elim
    ((Oi s).elim ((PU s).elim (.ofV ((pG f).bind λg=>(nI (s.map λx=>(T x).v)).map λx=>ck g x)) λz=>if (decide (f=("isinstance":Str)) && bx u.ks z.2 [.globalImplicit])=true then (BF z.2).elim (if (FM u.E z.2 && cB z.2)=true then .ofV ((T z.1).e.map λx=>km (kM u.E u.R z.2) x) else {}) (λt=>.ofV ((T z.1).e.map λx=>uR t x)) else .ofV ((pG f).bind λg=>(nI (s.map λx=>(T x).v)).map λx=>ck g x)) λz=>if (decide (f=("isinstance":Str)) && z.2.all (KH u) && decide (z.2.length≤100))=true then .ofV ((T z.1).e.map λx=>km (lq u.E u.R z.2) x) else {})
    λa=>if f=("len":Str) then .ofV ((T a).e.map bF) else .ofV ((pG f).bind λg=>(nI [(T a).v]).map λx=>ck g x))
   λg=>if u.refs.contains f=true then .ofV ((oB (s.map λx=>(T x).e)).map λa=>ib g a) else .ofV ((nI (s.map λx=>(T x).v)).map λa=>ck (jH g) a))
  λg=>.ofE ((oB (s.map λx=>(T x).e)).map λa=>ue g f a)
 else {}
def Oc(u:Cn)(T:Expr->Tr)(o:Expr)(m:Str)(p:Pos)(s:Ab)(c:Pos):Tr:=if (s.isEmpty && LL u o m "pop" p c)=true then .ofE ((T o).e.map li) else (kt s).elim
  (if (decide (m=("get":Str)) && za o && (p.endLine == c.line))=true then (Am s).elim {} (fun z=>.ofV ((T o).v.bind fun x=>(T z.1).v.bind fun y=>(T z.2).v.map fun z=>Ai x y z)) else
   LC u (T o).e o m (s.map λx=>(T x).e) p c)
  λa=>if LL u o m "append" p c=true then .ofE ((T o).e.bind λx=>(T a).e.map λy=>dN x y) else
   LC u (T o).e o m (s.map λx=>(T x).e) p c
def O5(u:Cn)(T:Expr->Tr)(w:Cn->Expr->Tr)(e:Expr):Tr:=match e with
  | .Constant c _ _=>match c with
   | .int i=>.ofV (some (vC (.int i)))
   | .bool i=>.ofV (some (vC (.bl i)))
   | .none=>.ofV (some (vC .non))
   | .str i=>.ofV (some (vC (.str i)))
   |_=>{}
  | .Name x _=>if (bx u.ks x [.local,.cell,.free] && cB x)=true then .ofE ((gO u.N x).map ej) else
    if (bx u.ks x [.globalImplicit] && cB x)=true then .ofV ((u.G x).bind λv=>if BK v=true then none else some (vC v)) else {}
  | .BinOp a p b _=>.ofV ((Ox p).bind λg=>(T a).v.bind λx=>(T b).v.map λy=>oy g x y)
  | .UnaryOp p a _=>match p with
   | .USub=>.ofV ((T a).v.map (yH kG))
   | .Not=>.ofB ((T a).b.map kL) ((T a).w.map kL)
   |_=>{}
  | .BoolOp p h _=>.ofB (sU p (h.map λx=>(T x).b)) (sU p (h.map λx=>(T x).w))
  | .Compare a m j _=>(kt m).elim {}
    λp=>(kt j).elim {} λb=>(Ov p).elim (.ofC ((Ib p).bind λg=>(T a).e.bind λx=>(T b).e.map λy=>cc g x y)) λg=>.ofC ((T a).v.bind λx=>(T b).v.map λy=>oy g x y)
  | .IfExp c a b _=>{ Tr.ofV ((T c).b.bind λq=>(T a).v.bind λx=>(T b).v.map λy=>Fw q x y) with b:=none }
  | .Tuple h _ _=>.ofV ((nI (h.map λx=>(T x).v)).map cD)
  | .List h _=>.ofV ((nI (h.map λx=>(T x).v)).map eT)
  | .Dict k d _=>if (k.all (·.isSome) && decide (k.length=d.length) && !k.isEmpty && decide (k.length≤15))=true then .ofV ((Gn k (d.map λx=>(T x).v)).map nC) else {}
  | .Subscript a i _=>(Of i).elim ((Fy u a).elim (if pq u 4 a=true then .ofE ((T a).e.bind λx=>(T i).v.map λy=>lj x y) else .ofV ((T a).v.bind λx=>(T i).v.map λy=>oy mY x y)) λn=>.ofV ((T i).v.map λy=>oA n y))
    λz=>if z.2.2.isSome=true then {} else if pq u 4 a=true then .ofV ((T a).e.bind λx=>(JB (z.1.map λy=>(T y).v)).bind λy=>(JB (z.2.1.map λz=>(T z).v)).map λz=>rh x y z) else .ofV ((T a).v.bind λx=>(JB (z.1.map λy=>(T y).v)).bind λy=>(JB (z.2.1.map λz=>(T z).v)).map λz=>gL x y z)
  | .Call t r k H=>if k.isEmpty=true then (u_ t).elim ((IV t).elim {} λz=>Oc u T z.1 z.2.1 z.2.2 r H) (λf=>Ob u T f r) else {}
  | .Attribute o f _=>if za o=true then (if f=("place":Str) then .ofE ((T o).e.map λx=>LU CJ x f) else .ofE ((T o).e.map λx=>aE u.A x f)) else {}
  | .ListComp l S s _=>(L8 S).elim {} λz=>.ofV (kZ u w l z.1 z.2.1 z.2.2 s)
  |_=>{}
def tr(u:Cn):Nat->Expr->Tr
 |0,_=>{}
 |n+1,e=>O5 u (λx=>tr u n x) (λh x=>tr h n x) e
def JC(u:Cn)(n _k:Nat)(e:Expr):Option EE:=(tr u n e).e
end Ev
set_option tactic.hygienic true
namespace Ev
open PySem PySem.Spec PyProof.Rows L2
structure ExsOk(K:FG)(mg:SV)(E:List (Str×LS))(R:LS):Prop where
 own:∀c,(E.any λx=>decide (x.1=c))=true->∃C,bo K mainGlobals c=some (some (.ref C))/\mg c=some (.ref C)
 val:mg ("ValueError":Str)=none
 non:∀t C,(E.any λx=>decide (x.1=t))=true->mg t=some (.ref C)->bp K (.type "NoneType") (.ref C)=some false
 nonV:bp K (.type "NoneType") (.type "ValueError")=some false
 cl:∀c anc C,R.contains c=true->E.lookup c=some anc->bo K mainGlobals c=some (some (.ref C))->ExcCl K C/\nh K (.ref C) (.ref C)=some true/\bp K (.ref C) (.type "ValueError")=some (anc.contains ("ValueError":Str)) /\
  ∀t T,(E.any λx=>decide (x.1=t))=true->mg t=some (.ref T)->bp K (.ref C) (.ref T)=some (anc.contains t)/\(anc.contains t=true->kU K (.ref C) (.ref T)=some true)
 rE:∀c,R.contains c=true->(E.any λx=>decide (x.1=c))=true
 rs:∀c C,R.contains c=true->(CJ.lookup c).isNone=true->bo K mainGlobals c=some (some (.ref C))->mg c=some (.ref C)/\Qg K C
 zE:∀c f,CJ.lookup c=some f->(E.any λx=>decide (x.1=c))=true
 ri:∀c f C,CJ.lookup c=some f->bo K mainGlobals c=some (some (.ref C))->ExcCl K C/\sL K C f
noncomputable def lY(m:SV)(t:Str):Value:=(m t).getD (.type "ValueError")
theorem vA{K:FG}{m:SV}{E:List (Str×LS)}{R:LS}(h:ExsOk K m E R){t:Str}(q:FM E t=true):(∃C,m t=some (.ref C)/\lY m t=.ref C/\(E.any λx=>decide (x.1=t))=true)\/(t="ValueError"/\m t=none/\lY m t=.type "ValueError"):=by
 unfold FM at q;rcases wh.mp q with q|q
 .obtain⟨C,_,e⟩:=h.own t q;exact .inl ⟨C,e,by unfold lY;rw[e];rfl,q⟩
 .cases bq q;exact .inr ⟨rfl,h.val,by unfold lY;rw[h.val];rfl⟩
theorem vG{K:FG}{m:SV}{E:List (Str×LS)}{R:LS}(h:ExsOk K m E R){t:Str}(q:FM E t=true):AnsOk K (kM E R t) (lY m t) where
 non:=by
  rcases vA h q with ⟨C,s,x,n⟩|⟨_,_,x⟩
  .rw [x];exact h.non t C n s
  .rw [x];exact h.nonV
 exc:=λc b C e w=>by
  unfold kM at e;split at e;case isFalse=>cases e
  rename_i f;obtain⟨a,k,rfl⟩:=dJ.mp e;obtain⟨r,p,v,d⟩:=h.cl c a C f k w;refine⟨r,p,?_⟩;rcases vA h q with ⟨T,s,x,n⟩|⟨rfl,_,x⟩
  .rw [x];exact(d t T n s).1
  .rw [x];exact v
structure XOk(Γ:Cn)(X:Cx):Prop where
 hN:X.N=Γ.N
 nd:X.N.Nodup
 ks:X.e.scope.names=Γ.ks
 kd:X.e.scope.kind=.function
 calm:X.c=true
 hu:X.A.units+64 < cLine
 fns:∀x g,Γ.F x=some g->∃k f fd ps,FnOk X.p X.w X.K X.g X.b ow k f fd ps (oF X.K g)/\Room k X.A/\X.g x=some (.ref f)/\eY X.K (.ref f)=true/\Binds X.K fd ps []
 blt:∀x ∈ Fg,X.g x=none
 glb:∀x v,Γ.G x=some v->gI X.w X.K X.g x v
 attrs:Lx X.K Γ.A
 meths:Mc X Γ.M
 mks:∀c g,Γ.I c=some g->∃C k f fd ps,eX X.K c C/\X.g c=some (.ref C)/\Mk X.K C f/\FnOk X.p X.w X.K X.g X.b ow k f fd ps (oF X.K g)/\Room (k+1) X.A/\Binds X.K fd ps []
 exs:ExsOk X.K X.g Γ.E Γ.R
 ys:∀x gx,Γ.Y x=some gx->zq X.K gx/\∃k f fd ps,FnOk X.p X.w X.K X.g X.b (ux X.p X.w) k f fd ps (AE X.K gx)/\Room k X.A/\X.g x=some (.ref f)/\eY X.K (.ref f)=true/\Binds X.K fd ps []
 ws:Iz X Γ.W
structure Good(X:Cx)(ex:Expr)(t:Tr):Prop where
 v:∀f,t.v=some f->PE X ex (tV X.K f)
 e:∀f,t.e=some f->PE X ex (tE X.K f)
 b:∀f,t.b=some f->PT X ex (tQ X.K f)
 w:∀f,t.w=some f->PE X ex (tV X.K (vB f))
section
variable{X:Cx}{e:Expr}
theorem Good.no:Good X e {}:=⟨λ_ h=>(by cases h),λ_ h=>(by cases h),λ_ h=>(by cases h),λ_ h=>(by cases h)⟩
theorem Good.el{x:Type}{o:Option x}{b:Tr}{f:x->Tr}(h:∀a,o=some a->Good X e (f a))(s:o=none->Good X e b):Good X e (o.elim b f):=by
 cases o with
 |none=>exact s rfl
 |some a=>exact h a rfl
theorem Good.ite{c:Prop}[Decidable c]{a b:Tr}(h:c->Good X e a)(x:Good X e b):Good X e (if c then a else b):=by
 by_cases q:c
 .rw [ai q];exact h q
 .rw [ar q];exact x
def CC(e:Expr):Prop:=∀n w,isTrue e n w=(do let v <- w;standAt e.pos;holding [v] (truthy v))
theorem Good.ofV{t:Option EV}(h:∀f,t=some f->PE X e (tV X.K f))(p:CC e):Good X e (.ofV t) where
 v:=h
 e:=λf q=>by
  cases t with
  |none=>cases q
  |some g=>cases q;exact IB (h _ rfl)
 b:=λf q=>by
  cases t with
  |none=>cases q
  |some g=>cases q;exact yT (IB (h _ rfl)) (p _)
 w:=λf q=>by
  cases t with
  |none=>cases q
  |some g=>cases q;exact xJ (h _ rfl)
theorem Good.ofC{t:Option EV}(h:∀f,t=some f->PE X e (tV X.K f))(x:∀f,t=some f->PT X e (tQ X.K (bV f))):Good X e (.ofC t) where
 v:=h
 e:=λf q=>by
  cases t with
  |none=>cases q
  |some g=>cases q;exact IB (h _ rfl)
 b:=λf q=>by
  cases t with
  |none=>cases q
  |some g=>cases q;exact x _ rfl
 w:=λf q=>by
  cases t with
  |none=>cases q
  |some g=>cases q;exact xJ (h _ rfl)
theorem Good.ofE{t:Option EE}(h:∀f,t=some f->PE X e (tE X.K f))(p:CC e):Good X e (.ofE t) where
 v:=λf q=>by
  cases t with
  |none=>cases q
  |some g=>cases q;exact N6 (h _ rfl)
 e:=h
 b:=λf q=>by
  cases t with
  |none=>cases q
  |some g=>cases q;exact yT (h _ rfl) (p _)
 w:=λf q=>by
  cases t with
  |none=>cases q
  |some g=>cases q;exact xJ (N6 (h _ rfl))
theorem Good.ofB{b w:Option EB}(x:∀f,b=some f->PT X e (tQ X.K f))(h:∀f,w=some f->PE X e (tV X.K (vB f))):Good X e (.ofB b w) where
 v:=λf q=>by
  cases w with
  |none=>cases q
  |some g=>cases q;exact h _ rfl
 e:=λf q=>by
  cases w with
  |none=>cases q
  |some g=>cases q;exact IB (h _ rfl)
 b:=x
 w:=h
end
theorem kz{x e:Type}{o:Option x}{b r:e}{f:x->e}(h:o.elim b f=r):(∃a,o=some a/\f a=r)\/(o=none/\b=r):=by
 cases o with
 |none=>exact .inr ⟨rfl,h⟩
 |some a=>exact .inl ⟨a,rfl,h⟩
def eC(e:Expr):Prop:=∀s n,starEach (e::s) n=(false,eval e n)::starEach s n
structure RdE(e:Expr):Prop where
 st:eC e
 ix:kO e
 mr:∀op,behindInMarks op e=false
 ms:∀op op' b,lastMarks [op,op'] [b,e]=false
 ps:CD e
 sw:jb e=false->∀t l env,swapsWith e t l env=pure false
 fs:∀env x,foldedSetIterable e env x=pure x
theorem rd_of{u:Cn}{n:Nat}{e:Expr}(h:(tr u n e).v.isSome=true\/(tr u n e).e.isSome=true):RdE e:=by
 cases n with
 |zero=>rcases h with h|h<;>cases h
 |succ n=>cases e<;>first|(rcases h with h|h<;>cases h;done)|exact⟨λ_ _=>rfl,λ_ _=>rfl,λ_=>rfl,λ_ _ _=>rfl,λ_ _ _ _=>rfl,λc _ _ _=>(by first|rfl|cases c),λ_ _=>rfl⟩
theorem jX{u:Cn}{n:Nat}{e:Expr}{f:EV}(h:(tr u n e).v=some f):RdE e:=rd_of (.inl (by rw[h];rfl))
theorem nP{u:Cn}{n:Nat}{e:Expr}{f:EE}(h:(tr u n e).e=some f):RdE e:=rd_of (.inr (by rw[h];rfl))
theorem fC{s:Ab}{n:Env}{p:Pos}(h:∀e ∈ s,eC e):(backTo p (starEach s n)).any (·.1)=false:=by
 induction s with
 |nil=>rfl
 |cons e s i=>
  rw[h e aZ s n];have:=i λx a=>h x (a_ _ a)
  unfold backTo at this ⊢;rw[aU,ep,this];rfl
section
variable{u:Cn}{X:Cx}(h:XOk u X)
include h
theorem XOk.gl{x:Str}(q:bx u.ks x [.globalImplicit]=true):Gl X x:=by
 unfold Gl Env.kindOf;rw[h.ks];unfold bx at q;cases e:u.ks.lookup x with
 |none=>rw[e]at q;cases q
 |some k=>rw[e]at q;cases k<;>first|rfl|cases q
theorem XOk.vis{x:Str}(q:bx u.ks x [.local,.cell,.free]=true):CA X.e.scope x:=by
 unfold CA;rw[h.ks];unfold bx at q;cases e:u.ks.lookup x with
 |none=>rw[e]at q;cases q
 |some k=>rw[e]at q;cases k<;>first|exact .inl rfl|exact .inr (.inl rfl)|exact .inr (.inr rfl)|cases q
theorem XOk.loc{x:Str}(q:bx u.ks x [.local,.cell]=true):L2.Loc X.e.scope x:=by
 unfold L2.Loc;rw[h.ks];unfold bx at q;cases e:u.ks.lookup x with
 |none=>rw[e]at q;cases q
 |some k=>rw[e]at q;cases k<;>first|exact .inl rfl|exact .inr rfl|cases q
theorem XOk.local{x:Str}(q:bx u.ks x [.local]=true):X.e.scope.names.lookup x=some .local:=by
 rw[h.ks];unfold bx at q;cases e:u.ks.lookup x with
 |none=>rw[e]at q;cases q
 |some k=>rw[e]at q;cases k<;>first|rfl|cases q
omit h in
theorem bU{x:Str}(q:cB x=true):(x == ("__debug__":Str))=false/\(x == ("__classdict__":Str))=false:=by unfold cB at q;rw[aC]at q;exact⟨by simpa using q.1,by simpa using q.2⟩
theorem XOk.get{x:Str}{i:Nat}(q:gO u.N x=some i):X.N[i]? = some x:=by rw[h.hN];exact n3 q
omit h in
theorem gy{u:Cn}{n:Nat}:∀{s:Ab}{k:gc},(∀e ∈ s,Good X e (tr u n e))->nI (s.map λx=>(tr u n x).v)=some k->PA X s (sQ X.K k)/\∀e ∈ s,eC e
 | [],k,_,q=>by cases q;exact⟨Lp,λ_ z=>by cases z⟩
 |e::s,k,g,q=>by
  obtain⟨f,b,p⟩:=af q;obtain⟨r,v,rfl⟩:=ax p;obtain⟨m,t⟩:=gy (λx a=>g x (a_ _ a)) v;have b:(tr u n e).v=some f:=b;have c:eC e:=(jX b).st;refine⟨yE ((g e aZ).v f b) m (c _ _),λx a=>?_⟩;rcases av.mp a with a|a
  .subst a;exact c
  .exact t x a
omit h in
theorem ko{u:Cn}{n:Nat}:∀{s:Ab}{k:lr},(∀e ∈ s,Good X e (tr u n e))->oB (s.map λx=>(tr u n x).e)=some k->PA X s (s0 X.K k)/\∀e ∈ s,eC e
 | [],k,_,q=>by cases q;exact⟨K8,λ_ z=>by cases z⟩
 |e::s,k,g,q=>by
  obtain⟨f,b,p⟩:=af q;obtain⟨r,v,rfl⟩:=ax p;obtain⟨m,t⟩:=ko (λx a=>g x (a_ _ a)) v;have b:(tr u n e).e=some f:=b;have c:eC e:=(nP b).st;refine⟨HW ((g e aZ).e f b) m (c _ _),λx a=>?_⟩;rcases av.mp a with a|a
  .subst a;exact c
  .exact t x a
omit h in
theorem sS{o:BoolOp}{p:Pos}{u:Cn}{n:Nat}:∀{s:Ab}{f:EB},(∀e ∈ s,Good X e (tr u n e))->sU o (s.map λx=>(tr u n x).b)=some f->PW X (.BoolOp o s p) (tQ X.K f)
 | [],f,_,q=>by cases q
 | [a],f,g,q=>by
  cases o with
  |And=>exact Jf ((g a aZ).b f q)
  |Or=>exact Mm ((g a aZ).b f q)
 |a::b::s,f,g,q=>by
  obtain⟨x,k,m⟩:=af q;obtain⟨r,t,rfl⟩:=ax m;have i:=sS (s:=b::s) (p:=p) (λx c=>g x (a_ _ c)) t;cases o with
  |And=>exact Mp ((g a aZ).b x k) i
  |Or=>exact OJ ((g a aZ).b x k) i
omit h in
theorem sT{o:BoolOp}{p:Pos}{u:Cn}{n:Nat}:∀{s:Ab}{f:EB},(∀e ∈ s,Good X e (tr u n e))->sU o (s.map λx=>(tr u n x).w)=some f->PE X (.BoolOp o s p) (tV X.K (vB f))
 | [],f,_,q=>by cases q
 | [a],f,g,q=>Ju ((g a aZ).w f q)
 |a::b::s,f,g,q=>by
  obtain⟨x,k,m⟩:=af q;obtain⟨r,t,rfl⟩:=ax m;have i:=sT (s:=b::s) (p:=p) (λx c=>g x (a_ _ c)) t;cases o with
  |And=>exact MG ((g a aZ).w x k) i
  |Or=>exact OM ((g a aZ).w x k) i
omit h in
theorem xO{p:Pos}{u:Cn}{n:Nat}:∀{y:List (Option Expr)}{a:Ab}{l:DE},(∀e ∈ a,Good X e (tr u n e))->Gn y (a.map λx=>(tr u n x).v)=some l->KD X p y a l
 | [],[],l,_,q=>by cases q;exact Nu
 | [],_::_,l,_,q=>by cases q
 |k::m,[],l,_,q=>by cases q
 |k::m,v::z,l,g,q=>by
  obtain⟨x,s,t⟩:=af q;obtain⟨f,d,w⟩:=af t;obtain⟨r,j,rfl⟩:=ax w;have i:=xO (p:=p) (λx c=>g x (a_ _ c)) j;have b:=(g v aZ).v f d;unfold By at s;split at s
  .cases s;exact KQ Jm b i
  .cases s
omit h in
theorem rz{u:Cn}{n:Nat}{o:Option Expr}{f:EO}(g:∀e,Good X e (tr u n e))(q:JB (o.map λy=>(tr u n y).v)=some f):PO X o (tO X.K f):=by
 cases o with
 |none=>cases q;exact G_
 |some e=>obtain⟨x,a,rfl⟩:=ax (show((tr u n e).v).map bI=some f from q);exact G9 ((g e).v x a)
theorem Ig{o:Operator}{g:P->P->Option P}(q:Ox o=some g):o0 X (binaryOp o) g:=by cases o<;>first|(cases q;exact G8)|(cases q;exact Ks)|(cases q;exact G7)|(cases q;exact Ej)|(cases q;exact Kw)|(cases q;exact Kt)|cases q
omit h in
theorem B'{o:CmpOp}{g:P->P->Option P}(q:Ov o=some g):o0 X (compareOp o) g:=by cases o<;>first|(cases q;exact Ng)|(cases q;exact Nh)|(cases q;exact Ni)|(cases q;exact Nj)|cases q
theorem yq{o:CmpOp}{g:D->D->aL->Option P}(q:Ib o=some g):iT X (compareOp o) (rE X.K g):=by cases o<;>first|(cases q;exact KC h.hu)|(cases q;exact Ku h.hu)|(cases q;exact Kz h.hu)|(cases q;exact Bc h.hu)|(cases q;exact Ky)|cases q
theorem Fb{f:Str}{g:GF}{a:Expr}{s:Ab}{x:gc}{b o:Pos}(t:u.F f=some g)(q:bx u.ks f [.globalImplicit]=true)(d:cB f=true)(c:PA X (a::s) (sQ X.K x))(n:∀e ∈ a::s,eC e) :
  PE X (.Call (.Name f b) (a::s) [] o) (tV X.K (ck (jH g) x)):=by
 obtain⟨k,i,j,l,G,w,v,p,m⟩:=h.fns f g t;exact Jt (FnOk.pure G) w (h.gl q) v p m c (bU d).1 (n a aZ _ _) (fC λe r=>n e (a_ _ r))
theorem Ci{f:Str}{g:GF}{a:Expr}{s:Ab}{x:lr}{c o:Pos}(w:u.F f=some g)(t:bx u.ks f [.globalImplicit]=true)(v:cB f=true)(m:PA X (a::s) (s0 X.K x))(n:∀e ∈ a::s,eC e) :
  PE X (.Call (.Name f c) (a::s) [] o) (tV X.K (ib g x))/\PE X (.Call (.Name f c) (a::s) [] o) (tE X.K (B7 g x)):=by
 obtain⟨k,i,j,l,G,d,q,p,r⟩:=h.fns f g w;exact⟨Dr G d (h.gl t) q p r m (bU v).1 (n a aZ _ _) (fC fun e b=>n e (a_ _ b)),
  Ga G d (h.gl t) q p r m (bU v).1 (n a aZ _ _) (fC λe b=>n e (a_ _ b))⟩
theorem Cq{f:Str}{g:List P->Option P}{a:Expr}{n:Ab}{m:gc}{t p:Pos}(x:pG f=some g)(b:bx u.ks f [.globalImplicit]=true)(k:PA X (a::n) (sQ X.K m))(r:∀e ∈ a::n,eC e) :
  PE X (.Call (.Name f t) (a::n) [] p) (tV X.K (ck g m)):=by
 have s:=r a aZ n X.e;have c:=fC (n:=X.e) (p:=p) λe s=>r e (a_ _ s);unfold pG at x;split at x
 .rename_i e;subst e;cases x;exact F6 (h.gl b) (h.blt _ (by decide)) k s c
 split at x
 .rename_i e;subst e;cases x;exact Jk (h.gl b) (h.blt _ (by decide)) k h.calm s c
 split at x
 .rename_i e;subst e;cases x;exact Jj (h.gl b) (h.blt _ (by decide)) k h.calm s c
 split at x
 .rename_i e;subst e;cases x;exact Ji (h.gl b) (h.blt _ (by decide)) k s c
 .cases x
theorem Hw{t:Str}{T:String}{a:Expr}{c:EE}{r b p:Pos}(x:BF t=some T)(n:bx u.ks ("isinstance":Str) [.globalImplicit]=true)(k:bx u.ks t [.globalImplicit]=true)(s:PE X a (tE X.K c))(q:eC a) :
  PE X (.Call (.Name "isinstance" r) [a,.Name t b] [] p) (tV X.K (uR T c)):=by
 have f:starEach [a,.Name t b] X.e=[(false,eval a X.e),(false,eval (.Name t b) X.e)]:=by rw[q];rfl
 have m:=h.blt ("isinstance":Str) (by decide);unfold BF at x;split at x
 .rename_i e;subst e;cases x;exact FY Ez (h.gl n) m (h.gl k) (h.blt _ (by decide)) wr s (by decide) (by decide) f
 split at x
 .rename_i e;subst e;cases x;exact FY Bx (h.gl n) m (h.gl k) (h.blt _ (by decide)) Dj s (by decide) (by decide) f
 split at x
 .rename_i e;subst e;cases x;exact FY kit_tuple (h.gl n) m (h.gl k) (h.blt _ (by decide)) Dn s (by decide) (by decide) f
 .cases x
omit h in
theorem EH{f g:Str}(q:Hx u f g=true):f=g/\bx u.ks f [.globalImplicit]=true:=by unfold Hx at q;rw[aC]at q;exact⟨bq q.1,q.2⟩
theorem tab_of{a:Expr}{k:List (Str×P)}(q:Fy u a=some k):∃x p,a=.Name x p/\Gl X x/\Fq X.w X.K X.g x k/\(x == ("__debug__":Str))=false:=by
 obtain⟨x,m,s⟩:=af q;clear q;obtain⟨p,rfl⟩:=fL m;split at s
 .rename_i c;rw[aC]at c;obtain⟨v,G,n⟩:=af s;clear s;split at n
  .rename_i b r;obtain⟨f,e,t⟩:=(h.glb x _ G).2 b r rfl;rw[n]at e;cases e;exact⟨x,p,rfl,h.gl c.1,t,(bU c.2).1⟩
  .cases n
 .cases s
theorem FH{n:Nat}{t e:Expr}{f:gc}(g:∀x,Good X x (tr u n x))(q:DM u (λx=>tr u n x) t e=some f):PI X t e (tI X.K f):=by
 have plain:((tr u n e).v.map IG=some f)->PI X t e (tI X.K f):=λq=>by obtain⟨x,s,rfl⟩:=ax q;exact iS ((g e).v x s)
 have l:=kz q;clear q;rcases l with ⟨⟨H,p⟩,j,q⟩|⟨_,q⟩
 .obtain⟨S,o,rfl⟩:=jh j;dsimp only at q;split at q
  .rename_i r;obtain⟨rfl,r⟩:=EH r;rcases kz q with ⟨⟨a,b,c⟩,m,k⟩|⟨_,q⟩
   .clear q;cases yN m;obtain⟨x,s,k⟩:=af k;obtain⟨y,v,k⟩:=af k;obtain⟨z,d,rfl⟩:=ax k;have i:starEach [c] X.e=[(false,eval c X.e)]:=(jX d).st _ _;have w:starEach [b,c] X.e=[(false,eval b X.e),(false,eval c X.e)]:=by rw[(jX v).st,i]
    exact P0 (h.gl r) (h.blt ("range":Str) (by decide)) ((g a).v x s) ((g b).v y v) ((g c).v z d) (by rw[(jX s).st,w]) w i
   obtain⟨a,m,k⟩:=af q;clear q;cases d6 m;obtain⟨x,s,rfl⟩:=ax k;exact P1 (h.gl r) (h.blt ("range":Str) (by decide)) ((g a).v x s) ((jX s).st _ _)
  .exact plain q
 .exact plain q
omit h in
theorem tY{n:Nat}{t e:Expr}{f:gc}(q:DM u (λx=>tr u n x) t e=some f)(v:Env)(x:Value):foldedSetIterable e v x=pure x:=by
 have s:=kz q;clear q;rcases s with ⟨⟨b,a⟩,z,q⟩|⟨_,q⟩
 .obtain⟨c,p,rfl⟩:=jh z;rfl
 .obtain⟨x,k,rfl⟩:=ax q;exact(jX k).fs _ _
theorem Cr{s:Scope}{N:LS}{k:List Nat}{n:Nat}(q:vF u s N k n=true):BlockOk X s N k n:=by
 unfold vF at q;simp only[aC]at q;obtain⟨⟨⟨⟨⟨⟨c,m⟩,r⟩,p⟩,v⟩,d⟩,w⟩:=q;have f:u.N=N.take u.N.length:=bq v;refine⟨bq c,λx a=>?_,λx a l=>?_,λx a l=>?_,?_,?_,λx a l i b=>?_⟩
 .simpa using b9.mp m x a
 .have:=b9.mp r x a;rw[l]at this;simpa using this
 .have:=b9.mp p x a;rw[l]at this;have t:s.names.lookup x.1=some .free/\(u.ks.lookup x.1=some .cell\/u.ks.lookup x.1=some .free):=by simpa using this
  refine⟨t.1,?_⟩;unfold Env.kindOf;rw[h.ks];exact t.2
 .rw [h.hN];exact f
 .rw [h.hN];exact bq d
 .have:=b9.mp w x a;rw[l]at this;have e:gO u.N x.1=some i:=lA (by rw[<- h.hN];exact h.nd) (by rw[<- h.hN];exact b);rw[e]at this;simpa using this
end
theorem FE{X:Cx}{N:LS}{s:List (Str×NameKind)}{k:List NameKind}{e:Expr}{g:jD}(f:X.N=N)(d:X.N.Nodup)(b:∀x,bx s x k=true->L2.Loc X.e.scope x/\(X.fn x=true\/X.e.scope.names.lookup x=some .local))(q:Gi N s k e=some g):∃x p,e=.Name x p/\PG X (.Name x p) (gT X.K g):=by
 obtain⟨x,m,h⟩:=af q;clear q;obtain⟨p,rfl⟩:=fL m;split at h
 .rename_i c;obtain⟨i,r,rfl⟩:=ax h;obtain⟨a,n⟩:=b _ c;exact⟨x,p,rfl,HG i d (by rw[f];exact n3 r) a n⟩
 .cases h
theorem As{X:Cx}{N:LS}{n:List (Str×NameKind)}{k:List NameKind}{e:Expr}{g:jD}(v:X.c=true)(b:X.N=N)(d:X.N.Nodup)(m:∀x,bx n x k=true->L2.Loc X.e.scope x/\(X.fn x=true\/X.e.scope.names.lookup x=some .local))(q:DL N n k e=some g):PG X e (gT X.K g):=by
 have all:∀{s:Ab}{h:List jD},Ap N n k s=some h->GsOk X s h:=by
  intro s;induction s with
  |nil=>intro h q;cases q;exact .nil
  |cons e s i=>intro h q;obtain⟨g,f,t⟩:=af q;obtain⟨r,u,rfl⟩:=ax t;clear q t;obtain⟨x,p,rfl,a⟩:=FE b d m f;exact .cons a (i u)
 have w:=kz q;clear q;rcases w with ⟨s,z,q⟩|⟨_,q⟩
 .obtain⟨c,p,rfl⟩:=nD z;obtain⟨h,f,rfl⟩:=ax q;exact HF v (all f)
 .obtain⟨x,p,rfl,a⟩:=FE b d m q;exact a
theorem AR{s:Scope}{e:Env}(h:e.scope.kind=.function):(relabel s e).names=o9 s.names e.scope.names:=by unfold relabel o9 Env.kindOf;rw[h];simp
theorem XOk.inn{u:Cn}{X:Cx}(h:XOk u X){c:Scope}{N:LS}{t:List Nat}{n:Nat}(B:BlockOk X c N t n)(d:N.Nodup)(s:Shared)(H:Hp)(C:Addr)(f:List Addr) :
  XOk ⟨N,[],[],u.refs,o9 c.names u.ks,u.F,u.G,u.A,u.M,u.I,u.E,u.R,u.Y,u.W⟩ (Ev.inn X c N s H C f) where
 hN:=rfl
 nd:=d
 ks:=by show(relabel c X.e).names=_;rw[AR h.kd,h.ks]
 kd:=B.kind
 calm:=h.calm
 hu:=h.hu
 fns:=h.fns
 blt:=h.blt
 glb:=h.glb
 attrs:=h.attrs
 meths:=h.meths
 mks:=h.mks
 exs:=h.exs
 ys:=h.ys
 ws:=h.ws
theorem ol{X:Cx}{o:Scope}{N:LS}{w:List Nat}{n:Nat}{i:PN}{J:L2.St}{H:Hp}{s:Shared}(B:BlockOk X o N w n)(I:Inv X i J H s):closureFor o X.e=pure (ll o X.e):=by
 have all:∀x ∈ o.names,x.2=.free->∃c,X.e.cells.lookup x.1=some c:=λx d e=>I.o.has x.1 (B.fr x d e).2;unfold closureFor ll;have b:∀(l:List (Str×NameKind))(a:List (Str×Addr)),(∀x ∈ l,x.2=.free->∃c,X.e.cells.lookup x.1=some c) ->
   (forIn l a fun (x:Str×NameKind) (r:List (Str×Addr))=>(do
    if x.2 == .free then do
     let c <- cellOf X.e x.1
     pure (ForInStep.yield ((x.1,c)::r))
    else pure (ForInStep.yield r):Sem (ForInStep (List (Str×Addr)))))=pure ((((l.filter λx=>x.2 == .free).map λx=>(x.1,(X.e.cells.lookup x.1).getD 0)).reverse)++a):=by
  intro l;induction l with
  |nil=>intro a _;rfl
  |cons x l t=>
   intro a e;rw[List.forIn_cons];by_cases h:(x.2 == NameKind.free)=true
   .obtain⟨c,m⟩:=e x aZ (by simpa using h);rw[ai h,List.filter_cons_of_pos (p:=λ(x:Str×NameKind)=>x.2 == .free) h,aU,mG,di];have v:cellOf X.e x.1=pure c:=by unfold cellOf;rw[m]
    rw[v,m];show(forIn l ((x.1,c)::a) _:Sem _)=_;rw[t ((x.1,c)::a) λy f=>e y (a_ _ f)];rfl
   .rw [ar h,List.filter_cons_of_neg (p:=λ(x:Str×NameKind)=>x.2 == .free) h];show(forIn l a _:Sem _)=_;rw[t a λy f=>e y (a_ _ f)]
 have k:=b o.names [] all;rw [dZ] at k;show (Bind.bind (forIn o.names [] fun (x:Str×NameKind) (r:List (Str×Addr))=>(do
    if x.2 == .free then do
     let c <- cellOf X.e x.1
     pure (ForInStep.yield ((x.1,c)::r))
    else pure (ForInStep.yield r):Sem (ForInStep (List (Str×Addr))))) λq=>pure q:Sem (List (Str×Addr)))=_
 rw[k];rfl
end Ev
namespace Ev
open PySem PySem.Spec PyProof.Rows L2
theorem F_{X:Cx}{c:Scope}{N:LS}{m:List Nat}{n:Nat}{e iter t:Expr}{i:Ab}{o:Pos}{b:gc}{g:jD}{a:EB}{k:EV}(B:BlockOk X c N m n)(h:X.c=true)
  (w:PI X t iter (tI X.K b)) (d:∀s H C f,PG (inn X c N s H C f) t (gT X.K g)) (r:∀s H C f,PIfs (inn X c N s H C f) i a) (v:∀s H C f,PE (inn X c N s H C f) e (tV X.K k))
  (u:∀x,foldedSetIterable iter X.e x=pure x) :
  PE X (.ListComp e [⟨t,iter,i,0⟩] c o) (tV X.K (kn b m n g a k)):=λp s J H Q I q=>
 Jr B h w d r v (ol B I) u p s J H Q I q
theorem FX{X:Cx}{c:Scope}{N:LS}{u:List Nat}{n:Nat}(i:Nat){x:Str}{d p:Pos}{e iter t:Expr}{f:Ab}{o:Pos}{v:gc}{g:jD}{m:EB}{r:EV}(j:X.N.Nodup)(B:BlockOk X c N u n)(h:X.c=true)
  (F:PI X t iter (tI X.K v)) (S:∀s H C a,PG (inn X c N s H C a) t (gT X.K g)) (l:∀s H C a,PIfs (inn X c N s H C a) f m) (y:∀s H C a,PE (inn X c N s H C a) e (tV X.K r))
  (w:swapsWith (.ListComp e [⟨t,iter,f,0⟩] c o) (some (.Name x d)) p.line X.e=pure true)
  (K:∀x,foldedSetIterable iter X.e x=pure x) (b:X.N[i]? = some x) (P:L2.Loc X.e.scope x)
  (z:X.fn x=true\/X.e.scope.names.lookup x=some .local) :
  PS X (.Assign [.Name x d] (.ListComp e [⟨t,iter,f,0⟩] c o) p) (iG X.K (aP i (U (kn v u n g m r)))):=λk s J H D I q=>
 Ja i j B h F S l y (ol B I) w K b P z k s J H D I q
def sO(n:Nat):Prop:=∀(u:Cn)(X:Cx),XOk u X->∀e,Good X e (tr u n e)
theorem XOk.own{u:Cn}{X:Cx}(h:XOk u X)(o:LS):XOk ⟨u.N,o,u.deep,u.refs,u.ks,u.F,u.G,u.A,u.M,u.I,u.E,u.R,u.Y,u.W⟩ X:=⟨h.hN,h.nd,h.ks,h.kd,h.calm,h.hu,h.fns,h.blt,h.glb,h.attrs,h.meths,h.mks,h.exs,h.ys,h.ws⟩
theorem uo{u:Cn}{X:Cx}(h:XOk u X){n:Nat}(G:sO n){l t iter:Expr}{k:Ab}{o:Scope}{f:EV}(q:kZ u (λw x=>tr w n x) l t iter k o=some f) :
  ∃N b m z g j y,BlockOk X o N b m/\PI X t iter (tI X.K z)/\(∀s H C p,PG (inn X o N s H C p) t (gT X.K g))/\(∀s H C p,PIfs (inn X o N s H C p) k j)/\(∀s H C p,PE (inn X o N s H C p) l (tV X.K y)) /\
   (∀x,foldedSetIterable iter X.e x=pure x)/\f=kn z b m g j y:=by
 unfold kZ at q;generalize A:u.N++lZ u.N (fK t)=N at q;generalize D:NS u.N (fK t)=b at q;generalize M:(lZ u.N (fK t)).length=m at q;split at q
 .rename_i v;rw[aC]at v;obtain⟨E,K,q⟩:=af q;obtain⟨P,I,q⟩:=af q;obtain⟨c,d,q⟩:=af q;obtain⟨e,L,rfl⟩:=ax q;have B:BlockOk X o N b m:=Cr h v.1;have F:N.Nodup:=bq v.2;have i:=λs H C p=>(h.inn B F s H C p).own (u.own.filter (λx=>!(fK t).contains x))
  refine⟨N,b,m,E,P,c,e,B,FH h (G u X h) K,λs H C p=>?_,λs H C p=>?_,λs H C p=>?_,λx=>tY K _ x,rfl⟩
  .exact As h.calm rfl F (λx S=>⟨.inl ((i s H C p).local S),.inr ((i s H C p).local S)⟩) I
  .cases k with
   |nil=>cases d;exact PIfs.none
   |cons a r=>
    cases r with
    |nil=>exact PIfs.one ((G _ _ (i s H C p) a).b c d)
    |cons _ _=>cases d
  .exact (G _ _ (i s H C p) l).v e L
 .cases q
theorem um{u:Cn}{X:Cx}(h:XOk u X){n:Nat}(G:sO n){e t iter:Expr}{a:Ab}{s:Scope}{o:Pos}{f:EV}(q:kZ u (λc x=>tr c n x) e t iter a s=some f) :
  PE X (.ListComp e [⟨t,iter,a,0⟩] s o) (tV X.K f)/\∀(i:Nat){x:Str}{b p:Pos},X.N.Nodup->swapsWith (.ListComp e [⟨t,iter,a,0⟩] s o) (some (.Name x b)) p.line X.e=pure true->X.N[i]? = some x->L2.Loc X.e.scope x->(X.fn x=true\/X.e.scope.names.lookup x=some .local) ->
   PS X (.Assign [.Name x b] (.ListComp e [⟨t,iter,a,0⟩] s o) p) (iG X.K (aP i (U f))):=by
 obtain⟨z,P,m,F,K,H,S,B,r,v,d,w,g,rfl⟩:=uo h G q;exact⟨F_ B h.calm r v d w g,λi x b p N y k l j=>FX i N B h.calm r v d w y g k l j⟩
theorem Bm{u:Cn}{o:Expr}{m n:Str}{a c:Pos}(h:LL u o m n a c=true):m=n/\za o=true/\(a.endLine == c.line)=true:=by unfold LL at h;simp only[aC]at h;exact⟨bq h.1.1.1,h.1.2,h.2⟩
theorem eh{o:Expr}{x:Str}{e:Env}(h:za o=true):attributeBase o x e (eval o e)=eval o e:=by
 cases o with
 |Call f a k p=>
  cases f with
  |Name x q=>cases k<;>cases h
  |_=>rfl
 |_=>rfl
theorem lI{o:Expr}{x:Str}{e:Env}(n:EF o=true):attributeBase o x e (eval o e)=eval o e:=by
 unfold EF at n;rcases wh.mp n with h|h
 .exact eh h
 .cases s:pE o with
  |none=>rw[s]at h;cases h
  |some z=>
   rw[s]at h;clear n;obtain⟨f,k⟩:=z;obtain⟨p,c,rfl⟩:=jh s;cases k with
   |nil=>cases h
   |cons a k=>rfl
theorem ye{a:Ab}{n:Env}{p:Pos}(h:∀e ∈ a,eC e)(l:a.length < 29):methodCallForm (a.length+([]:List Keyword).length) (backTo p (starEach a n)) (backToKw p (keywordEach [] n))=true:=by
 unfold methodCallForm;have s:=fC (n:=n) (p:=p) h;have k:(backTo p (starEach a n)).all (λx=>!x.1)=true:=by
  rw[b9];intro x c;cases b:x.1 with
  |false=>rfl
  |true=>have:(backTo p (starEach a n)).any (·.1)=true:=mE.mpr ⟨x,c,b⟩;rw[s]at this;cases this
 rw[k];have f:(backToKw p (keywordEach [] n))=[]:=rfl;rw[f];simp;lia
theorem Aq{u:Cn}{X:Cx}(h:XOk u X){n:Nat}(g:∀x,Good X x (tr u n x)){o:Expr}{m:Str}{r:Ab}{p k:Pos}:Good X (.Call (.Attribute o m p) r [] k) (LC u (tr u n o).e o m (r.map λx=>(tr u n x).e) p k):=by
 unfold LC;split
 .rename_i c;simp only[aC]at c;have l:r.length < 29:=by have:=bq c.2;rwa [dL]at this
  refine .ofE (λf q=>?_) λ_ _=>rfl;obtain⟨x,t,q⟩:=af q;obtain⟨a,v,rfl⟩:=ax q;obtain⟨d,s⟩:=ko (λe _=>g e) v;have b:=Bq (o:=o) (y:=m) (j:=p) (E:=k) (r:=r) (v:=X.e) (lI c.1.1) (ye s l) c.1.2;cases r with
  |nil=>cases v;exact F9 h.meths ((g o).e x t) b
  |cons e i=>exact Jn h.meths ((g o).e x t) d (s e aZ _ _) (fC λy w=>s y (a_ _ w)) b
 .exact .no
theorem Le{u:Cn}{X:Cx}(h:XOk u X){t:Str}{p:Pos}(q:FM u.E t=true)(k:bx u.ks t [.globalImplicit]=true)(o:cB t=true):∃v,Lf (lY X.g t)=some v/\PE X (.Name t p) (tC v):=by
 rcases vA h.exs q with ⟨C,e,x,_⟩|⟨rfl,e,x⟩
 .exact⟨.ref C,by rw[x];rfl,rN (h.gl k) e rfl (bU o).1⟩
 .exact⟨.ty "ValueError",by rw[x];rfl,xZ (h.gl k) e PyProof.Rows.Boot.«ValueError» rfl (by decide) (by decide)⟩
theorem EC{u:Cn}{X:Cx}(h:XOk u X){t:Str}{a:Expr}{f:EE}{e x p:Pos}(q:FM u.E t=true)(k:bx u.ks t [.globalImplicit]=true)(o:cB t=true)(n:bx u.ks ("isinstance":Str) [.globalImplicit]=true)(s:PE X a (tE X.K f))(m:eC a) :
  PE X (.Call (.Name "isinstance" e) [a,.Name t x] [] p) (tV X.K (km (kM u.E u.R t) f)):=by
 obtain⟨v,b,c⟩:=Le h (p:=x) q k o;exact Jc b (vG h.exs q) (h.gl n) (h.blt ("isinstance":Str) (by decide)) s c (by rw[m];rfl) rfl
theorem FO{u:Cn}{X:Cx}(h:XOk u X):∀{n:Ab}{t:LS},Bg n=some t->t.all (KH u)=true->∃s,ClVs (t.map (lY X.g)) s/\PA X n (λ_ H Q=>Q s H)
 | [],_,q,_=>by cases q;exact⟨[],.nil,ij⟩
 |e::n,_,q,k=>by obtain⟨x,d,p⟩:=af q;obtain⟨l,w,rfl⟩:=ax p;obtain⟨r,rfl⟩:=fL d;simp only[wG,aC]at k;obtain⟨s,c,f⟩:=FO h w k.2;have a:=k.1;unfold KH at a;simp only[aC]at a;obtain⟨v,m,b⟩:=Le h (p:=r) a.1.1 a.1.2 a.2;exact⟨v::s,.cons m c,d4 b f⟩
theorem Fo{K:FG}{m:SV}{E:List (Str×LS)}{R:LS}(h:ExsOk K m E R){s:LS}(q:∀t ∈ s,FM E t=true):AnsOkT K (lq E R s) (s.map (lY m)) where
 non:=by
  induction s with
  |nil=>rfl
  |cons t s i=>show kW _ _ (lY m t::s.map (lY m))=_;unfold kW;rw[(vG h (q t aZ)).non];exact i λt x=>q t (a_ _ x)
 exc:=λc b C e f=>by
  unfold lq at e;split at e;case isFalse=>cases e
  rename_i k;obtain⟨a,n,rfl⟩:=dJ.mp e;obtain⟨r,p,v,d⟩:=h.cl c a C k n f;refine⟨r,p,?_⟩;clear e v d;induction s with
  |nil=>rfl
  |cons t s i=>
   show kW _ _ (lY m t::s.map (lY m))=_;unfold kW;rw[((vG h (q t aZ)).exc c (a.contains t) C (by unfold kM;rw[ai k,n];rfl) f).2.2,ep];cases a.contains t with
   |true=>rfl
   |false=>rw[qv];exact i λt x=>q t (a_ _ x)
theorem Es{u:Cn}{X:Cx}(h:XOk u X){f:Str}{g:GF}{a:Expr}{s:Ab}{x:lr}{b p:Pos}(q:u.I f=some g)(v:bx u.ks f [.globalImplicit]=true)(w:cB f=true)(m:PA X (a::s) (s0 X.K x))(n:∀e ∈ a::s,eC e) :
  PE X (.Call (.Name f b) (a::s) [] p) (tE X.K (ue g f x)):=by
 obtain⟨C,k,j,l,y,c,d,mk,G,i,r⟩:=h.mks f g q;exact Jo mk G i (h.gl v) d c r m (bU w).1 (n a aZ _ _) (fC λe t=>n e (a_ _ t))
theorem Ca{g:List Comprehension}{t iter:Expr}{i:Ab}(h:L8 g=some (t,iter,i)):g=[⟨t,iter,i,0⟩]:=by
 obtain⟨⟨a,b,c,d⟩,x,p⟩:=af h;split at p
 .rename_i e;cases p;cases (show d=0 from e);exact d6 x
 .cases p
section
variable{u:Cn}{X:Cx}(h:XOk u X){n:Nat}(g:∀x,Good X x (tr u n x))
include h g
theorem BH{f:Str}{e:Ab}{i v:Pos}{a:Expr}{s:LS}(y:bx u.ks f [.globalImplicit]=true)(l:Oi e=some (a,s)):Good X (.Call (.Name f i) e [] v) (if (decide (f=("isinstance":Str)) && s.all (KH u) && decide (s.length≤100))=true then .ofV ((tr u n a).e.map λx=>km (lq u.E u.R s) x) else {}):=by
 refine .ite (λm=>?_) .no;simp only[aC,jF]at m;obtain⟨⟨rfl,k⟩,j⟩:=m;obtain⟨⟨K,b⟩,o,p⟩:=af l;obtain⟨P,H,p⟩:=af p;obtain⟨F,S,p⟩:=ax p;cases p;cases rk o;obtain⟨c,p,rfl⟩:=nD H;refine .ofV (λf q=>?_) λ_ _=>rfl;obtain⟨x,r,rfl⟩:=ax q;obtain⟨A,d,w⟩:=FO h S k;exact Jd d (by rw[dL];exact j) (Fo h.exs λt z=>by have:=b9.mp k t z;unfold KH at this;simp only[aC]at this;exact this.1.1) (h.gl y) (h.blt ("isinstance":Str) (by decide)) ((g _).e x r) w (nP r).st
theorem Gm{f:Str}{r:Ab}{y l:Pos}:Good X (.Call (.Name f y) r [] l) (Ob u (λx=>tr u n x) f r):=by
 refine .ite (λc=>?_) .no;simp only[aC,mu]at c;cases r with
 |nil=>cases c.2
 |cons a r=>
 have w:Good X (.Call (.Name f y) (a::r) [] l) (.ofV ((pG f).bind λg=>(nI ((a::r).map λx=>(tr u n x).v)).map λx=>ck g x)):=by refine .ofV (λf q=>?_) λ_ _=>rfl;obtain⟨o,s,q⟩:=af q;obtain⟨x,m,rfl⟩:=ax q;obtain⟨k,b⟩:=gy (s:=a::r) (λe _=>g e) m;exact Cq h s c.1.1 k b
 refine .el (λS d=>?_) λ_=>.el (λS d=>.ite (λ_=>?_) ?_) λ_=>.el (λj p=>?_) λ_=>.el (λ⟨j,C⟩ p=>BH h g c.1.1 p) λ_=>.el (λ⟨j,t⟩ p=>?_) λ_=>w
 .refine .ofE (λf q=>?_) λ_ _=>rfl;obtain⟨x,s,rfl⟩:=ax q;obtain⟨k,b⟩:=ko (λe _=>g e) s;exact Es h d c.1.1 c.1.2 k b
 .refine .ofV (λf q=>?_) λ_ _=>rfl;obtain⟨x,s,rfl⟩:=ax q;obtain⟨k,b⟩:=ko (λe _=>g e) s;exact(Ci h d c.1.1 c.1.2 k b).1
 .refine .ofV (λf q=>?_) λ_ _=>rfl;obtain⟨x,s,rfl⟩:=ax q;obtain⟨k,b⟩:=gy (λe _=>g e) s;exact Fb h d c.1.1 c.1.2 k b
 .cases d6 p;refine .ite (λF=>?_) ?_
  .subst F;refine .ofV (λf q=>?_) λ_ _=>rfl
   obtain⟨x,s,rfl⟩:=ax q;exact MB (h.gl c.1.1) (h.blt _ (by decide)) ((g _).e x s) ((nP s).st _ _)
  .refine .ofV (λf q=>?_) λ_ _=>rfl;obtain⟨o,s,q⟩:=af q;obtain⟨x,m,rfl⟩:=ax q;obtain⟨k,b⟩:=gy (s:=[a]) (λe _=>g e) m;exact Cq h s c.1.1 k b
 .refine .ite (λv=>?_) w;clear w;rw[aC]at v;cases bq v.1;obtain⟨⟨k,b⟩,z,K⟩:=af p;obtain⟨A,H,P⟩:=ax K;cases P;obtain⟨B,rfl⟩:=fL H;cases rk z;refine .el (λT s=>?_) λ_=>.ite (λi=>?_) .no
  .refine .ofV (λf q=>?_) λ_ _=>rfl;obtain⟨x,m,rfl⟩:=ax q;exact Hw h s c.1.1 v.2 ((g _).e x m) (nP m).st
  .rw [aC]at i;refine .ofV (λf q=>?_) λ_ _=>rfl;obtain⟨x,m,rfl⟩:=ax q;exact EC h i.1 v.2 i.2 c.1.1 ((g _).e x m) (nP m).st
theorem Go{o:Expr}{m:Str}{v:Ab}{p d:Pos}:Good X (.Call (.Attribute o m p) v [] d) (Oc u (λx=>tr u n x) o m p v d):=by
 have j:X.A.units+1 < cLine:=by have:=h.hu;lia
 refine .ite (λc=>?_) (.el (λa t=>?_) λ_=>?_)
 .rw [aC]at c;cases mF.mp c.1;obtain⟨rfl,k,r⟩:=Bm c.2;refine .ofE (λf q=>?_) λ_ _=>rfl;obtain⟨x,e,rfl⟩:=ax q;exact Mv ((g _).e x e) (eh k) r
 .cases d6 t;refine .ite (λc=>?_) (Aq h g)
  .obtain⟨rfl,k,r⟩:=Bm c;refine .ofE (λf q=>?_) λ_ _=>rfl;obtain⟨x,e,q⟩:=af q;obtain⟨y,s,rfl⟩:=ax q;exact Ds ((g _).e x e) ((g _).e y s) ((nP s).st _ _) (eh k) r
 .refine .ite (λc=>.el (λ⟨a,b⟩ t=>?_) λ_=>.no) (Aq h g)
  .simp only[aC]at c;cases bq c.1.1;cases rk t;refine .ofV (λf q=>?_) λ_ _=>rfl;obtain⟨x,e,q⟩:=af q;obtain⟨y,s,q⟩:=af q;obtain⟨z,w,rfl⟩:=ax q;have l:starEach [b] X.e=[(false,eval b X.e)]:=(jX w).st _ _;have i:starEach [a,b] X.e=[(false,eval a X.e),(false,eval b X.e)]:=by rw[(jX s).st,l]
   exact F7 j ((g _).v x e) ((g _).v y s) ((g _).v z w) ⟨eh c.1.2,by rw[i];rfl,c.2,by rw[i];rfl⟩
end
theorem iF:∀n,sO n
 |0=>λu X h e=>Good.no
 |n+1=>by
  have G:=iF n;intro u X h e;have g:=G u X h;cases e with
  |Constant c k p=>
   cases c with
   |int i=>exact .ofV (λf q=>by cases q;exact MD) λ_ _=>rfl
   |bool i=>exact .ofV (λf q=>by cases q;exact OR) λ_ _=>rfl
   |none=>exact .ofV (λf q=>by cases q;exact Mx) λ_ _=>rfl
   |str i=>exact .ofV (λf q=>by cases q;exact Jm) λ_ _=>rfl
   |_=>exact .no
  |Name x p=>
   refine .ite (λw=>?_) (.ite (λw=>?_) .no)
   .rw [aC]at w;refine .ofE (λf q=>?_) λ_ _=>rfl;obtain⟨i,r,rfl⟩:=ax q;exact Jl i (h.get r) (h.vis w.1) (bU w.2).1 (bU w.2).2
   .rw [aC]at w;refine .ofV (λf q=>?_) λ_ _=>rfl;obtain⟨v,r,q⟩:=af q;split at q
    .cases q
    .rename_i T;cases q;exact Jp (h.gl w.1) ((h.glb _ v r).1 (by simpa using T)) (bU w.2).1
  |BinOp a j b p=>refine .ofV (λf q=>?_) λ_ _=>rfl;obtain⟨o,r,q⟩:=af q;obtain⟨x,t,q⟩:=af q;obtain⟨y,d,rfl⟩:=ax q;exact ON (Ig h r) ((g _).v x t) ((g _).v y d)
  |UnaryOp j a p=>
   cases j with
   |USub=>refine .ofV (λf q=>?_) λ_ _=>rfl;obtain⟨x,r,rfl⟩:=ax q;exact Mz ((g _).v x r)
   |Not=>
    refine .ofB (λf q=>?_) λf q=>?_
    .obtain⟨x,r,rfl⟩:=ax q;exact Mn ((g _).b x r)
    .obtain⟨x,r,rfl⟩:=ax q;exact Mw ((g _).w x r)
   |_=>exact .no
  |BoolOp j P p=>exact .ofB (λf q=>(sS (λe _=>g e) q).pt) λf q=>sT (λe _=>g e) q
  |Compare a ops bs p=>
   refine .el (λj S=>?_) λ_=>.no
   .cases d6 S;refine .el (λb R=>?_) λ_=>.no
    cases d6 R;refine .el (λI r=>?_) λ_=>?_
    .have s:∀f,((tr u n a).v.bind λx=>(tr u n b).v.map λy=>oy I x y)=some f->PE X (.Compare a [j] [b] p) (tV X.K f)/\PT X (.Compare a [j] [b] p) (tQ X.K (bV f)):=λf q=>by
      obtain⟨x,t,q⟩:=af q;obtain⟨y,d,rfl⟩:=ax q;exact⟨MF (B' r) ((g _).v x t) ((g _).v y d) ((jX d).mr _),Mo (B' r) ((g _).v x t) ((g _).v y d) ((jX d).mr _)⟩
     exact .ofC (λf q=>(s f q).1) λf q=>(s f q).2
    .have s:∀f,((Ib j).bind λg=>(tr u n a).e.bind λx=>(tr u n b).e.map λy=>cc g x y)=some f->PE X (.Compare a [j] [b] p) (tV X.K f)/\PT X (.Compare a [j] [b] p) (tQ X.K (bV f)):=λf q=>by
      obtain⟨o,r,q⟩:=af q;obtain⟨x,t,q⟩:=af q;obtain⟨y,d,rfl⟩:=ax q;exact⟨Js (yq h r) ((g _).e x t) ((g _).e y d) ((nP d).mr _),Je (yq h r) ((g _).e x t) ((g _).e y d) ((nP d).mr _)⟩
     exact .ofC (λf q=>(s f q).1) λf q=>(s f q).2
  |IfExp c a b p=>
   have F:∀f,((tr u n c).b.bind λq=>(tr u n a).v.bind λx=>(tr u n b).v.map λy=>Fw q x y)=some f->PE X (.IfExp c a b p) (tV X.K f):=λf q=>by obtain⟨o,r,q⟩:=af q;obtain⟨x,t,q⟩:=af q;obtain⟨y,d,rfl⟩:=ax q;exact OP ((g _).b o r) ((g _).v x t) ((g _).v y d)
   refine⟨F,λf q=>?_,λf q=>(by cases q),λf q=>?_⟩
   .obtain⟨x,r,rfl⟩:=ax (show mx U _=some f from q);exact IB (F _ r)
   .obtain⟨x,r,rfl⟩:=ax (show mx bV _=some f from q);exact xJ (F _ r)
  |Tuple P c p=>refine .ofV (λf q=>?_) λ_ _=>rfl;obtain⟨x,r,rfl⟩:=ax q;exact Mr (gy (λe _=>g e) r).1
  |List P p=>refine .ofV (λf q=>?_) λ_ _=>rfl;obtain⟨x,r,rfl⟩:=ax q;exact MA (gy (λe _=>g e) r).1
  |Dict ks vs p=>refine .ite (λw=>?_) .no;simp only[aC]at w;obtain⟨⟨⟨M,N⟩,A⟩,Q⟩:=w;refine .ofV (λf q=>?_) λ_ _=>rfl;obtain⟨l,r,rfl⟩:=ax q;exact Jq (xO (λe _=>g e) r) M (bq N) (λz=>by rw[z]at A;cases A) (bq Q)
  |Subscript a i p=>
   have B:X.A.units+1 < cLine:=by have:=h.hu;lia
   refine .el (λ⟨lo,hi,st⟩ W=>?_) λ_=>.el (λkvs H=>?_) λ_=>.ite (λ_=>?_) ?_;case refine_2=>obtain⟨x,p,rfl,t1,t2,t3⟩:=tab_of h H;refine .ofV (λf q=>?_) λ_ _=>rfl;obtain⟨y,t,rfl⟩:=ax q;exact Jh t1 t2 t3 ((g _).v y t) (jX t).ix
   .obtain⟨p,rfl⟩:=Gy W;cases st with
    |some _=>exact .no
    |none=>
     refine .ite (λL=>nomatch L) (.ite (λ_=>.ofV (λf q=>?_) λ_ _=>rfl) (.ofV (λf q=>?_) λ_ _=>rfl))
     .obtain⟨x,r,q⟩:=af q;obtain⟨y,t,q⟩:=af q;obtain⟨z,d,rfl⟩:=ax q;exact Ms ((g _).e x r) (rz g t) (rz g d)
     obtain⟨x,r,q⟩:=af q;obtain⟨y,t,q⟩:=af q;obtain⟨z,d,rfl⟩:=ax q;exact Mt ((g _).v x r) (rz g t) (rz g d)
   .refine .ofE (λf q=>?_) λ_ _=>rfl;obtain⟨x,r,q⟩:=af q;obtain⟨y,t,rfl⟩:=ax q;exact MC B ((g _).e x r) ((g _).v y t) (jX t).ix
   .refine .ofV (λf q=>?_) λ_ _=>rfl;obtain⟨x,r,q⟩:=af q;obtain⟨y,t,rfl⟩:=ax q;exact OO B ((g _).v x r) ((g _).v y t) (jX t).ix
  |Call fn as ks cp=>
   refine .ite (λH=>?_) .no;cases mF.mp H;refine .el (λf V=>?_) λ_=>.el (λ⟨o,m,ap⟩ S=>?_) λ_=>.no
   .obtain⟨fp,rfl⟩:=fL V;exact Gm h g
   .cases sK S;exact Go h g
  |Attribute o f p=>
   refine .ite (λw=>.ite (λ_=>?_) ?_) .no
   .refine .ofE (λf q=>?_) λ_ _=>rfl;obtain⟨x,r,rfl⟩:=ax q;exact OL (λc C z D=>⟨(h.exs.ri c _ C z D).1,(h.exs.ri c _ C z D).2.1⟩) ((g _).e x r) (eh w)
   .refine .ofE (λf q=>?_) λ_ _=>rfl;obtain⟨x,r,rfl⟩:=ax q;exact ME h.attrs ((g _).e x r) (eh w)
  |ListComp E gs K p=>refine .el (λ⟨tg,iter,ifs⟩ Z=>?_) λ_=>.no;cases Ca Z;exact .ofV (λf q=>(um h G q).1) λ_ _=>rfl
  |_=>exact .no
theorem nH{u:Cn}{X:Cx}(h:XOk u X){n k:Nat}{e:Expr}{f:EE}(q:JC u n k e=some f):PE X e (tE X.K f)/\(jb e=false->∀t l v,swapsWith e t l v=pure false):=⟨(iF n u X h _).e f q,(nP q).sw⟩
end Ev
namespace Ev
open PySem PySem.Spec PyProof.Rows L2
def rq(T:Stmt->Option ES):List Stmt->Option ES
 | []=>some c_
 | [s]=>T s
 |s::r=>(T s).bind λf=>(rq T r).map λg=>aj f g
def Ip(s:Stmt):Option (Str×Expr):=if h:s.ctorIdx=5 then Stmt.Assign.elim s h λa v _=>(kt a).bind λt=>(u_ t).map λx=>(x,v) else none
theorem yz{s:Stmt}{x:Str}{v:Expr}(h:Ip s=some (x,v)):∃f a,s=.Assign [.Name x f] v a:=by
 have c:=HV h;revert h;exact Stmt.Assign.elim s c λb m a h=>by obtain⟨t,e,h⟩:=af h;obtain⟨r,n,k⟩:=ax h;obtain⟨p,rfl⟩:=fL n;cases k;exact⟨p,a,by rw[d6 e]⟩
def K0:ExceptHandler->Option (Str×Str×List Stmt)
 | .ExceptHandler t n b _=>t.bind λt=>n.bind λn=>(u_ t).map λc=>(c,n,b)
theorem EJ{e:ExceptHandler}{c n:Str}{b:List Stmt}(h:K0 e=some (c,n,b)):∃k o,e=.ExceptHandler (some (.Name c k)) (some n) b o:=by obtain⟨t,m,x,p⟩:=e;obtain⟨q,rfl,h⟩:=af (show(t.bind λt=>m.bind λn=>(u_ t).map λc=>(c,n,x))=_ from h);obtain⟨r,rfl,h⟩:=af h;obtain⟨f,a,s⟩:=ax h;obtain⟨p,rfl⟩:=fL a;cases s;exact⟨_,_,rfl⟩
def Ao(u:Cn)(T:Expr->Tr)(D:Expr->Option EE)(b:List Stmt)(p:List ExceptHandler)(e m:List Stmt):Option ES:=if (e.isEmpty && m.isEmpty)=true then
  (kt b).bind λs=>(Ip s).bind λx=>(pE x.2).bind λf=>(kt p).bind λh=>(K0 h).bind λc=>(kt c.2.2).bind λq=>(Ip q).bind λy=>(u_ y.2).bind λz=>(u.Y f.1).bind λg=>
   if (bx u.ks x.1 [.local,.cell] && bx u.ks y.1 [.local,.cell] && bx u.ks f.1 [.globalImplicit] && cB f.1 && !f.2.isEmpty && bx u.ks c.1 [.globalImplicit] && cB c.1 && (u.E.any λw=>decide (w.1=c.1)) && bx u.ks c.2.1 [.local] && decide (z=c.2.1) && cB c.2.1)=true then
    (gO u.N x.1).bind λi=>(gO u.N y.1).bind λj=>(gO u.N c.2.1).bind λk=>(if u.own.contains x.1=true then D x.2 else (T x.2).e).bind λt=>(oB (f.2.map λw=>(T w).e)).map λa=>
     u1 (aP i t) (ny g a) (λr=>u.R.contains r && (u.E.lookup r).any λn=>n.contains c.1) k (aP j (ej k))
   else none
 else none
def Oa(u:Cn)(n:Nat)(t v:Expr):Option ES:=
 (u_ t).elim ((IV t).elim (if jb v=true then none else (nE t).bind fun _=>if (nE v).isSome=true then none else (DL u.N u.ks [.local,.cell] t).bind fun g=>(tr u n v).v.map fun z=>Gz g z)
   λz=>(BJ v).elim (if jb v=true then none else (tr u n z.1).e.bind λx=>(JC u n 5 v).map λy=>i6 u.A x z.2.1 y) λe=>(tr u n z.1).e.bind λx=>(nI (e.map λy=>(tr u n y).v)).map λa=>i6 u.A x z.2.1 (kC a))
 λx=>if bx u.ks x [.local,.cell]=true then (gO u.N x).bind λi=>if (u.deep.contains x && !jb v)=true then (JC u n 5 v).map (aP i) else (if u.own.contains x=true then BJ v else none).elim ((tr u n v).e.map (aP i)) λe=>(nI (e.map λy=>(tr u n y).v)).map λa=>aP i (kC a)
  else none
def yL(u:Cn):Nat->Stmt->Option ES
 |0,_=>none
 |n+1,st=>match st with
  | .Assign m v _=>(kt m).bind λt=>Oa u n t v
  | .Return r _=>r.bind λe=>(tr u n e).e.map bw
  | .Expr e _=>if jb e=true then none else (tr u n e).e.map aQ
  | .Raise ..=>some bj
  | .Continue _=>some J0
  | .AugAssign t p v _=>match p with
   | .Add=>(u_ t).elim ((IV t).bind λz=>(tr u n z.1).e.bind λx=>(tr u n v).v.map λw=>lw u.A x z.2.1 w) λx=>if bx u.ks x [.local,.cell]=true then (gO u.N x).bind λi=>(tr u n v).v.map λz=>AM i z else none
   |_=>none
  | .While c o l _=>if l.isEmpty=false then none else (tr u n c).b.bind λq=>(rq (yL u n) o).map λb=>dR 1000 q b
  | .Try b s l f _=>Ao u (λy=>tr u n y) (λy=>JC u n 5 y) b s l f
  | .If c a b _=>(tr u n c).b.bind λq=>(rq (yL u n) a).bind λx=>(rq (yL u n) b).map λy=>bS q x y
  | .For h iter o l _=>if l.isEmpty=false then none else (DL u.N u.ks [.local,.cell] h).bind λg=>(DM u (λy=>tr u n y) h iter).bind λk=>(rq (yL u n) o).map λb=>tm k g b
  |_=>none
theorem Bf{s:Ab}{c:Nat}{p:Pos}{v:Expr}{e:Env}(h:¬(nE v).isSome=true):swappedStores [.Tuple s c p] v e=pure none:=by cases v<;>first|rfl|exact absurd rfl h
theorem DJ{u:Cn}{n:Nat}{l:Expr}{g:List Comprehension}{s:Scope}{p:Pos}{f:EE}(h:(tr u n (.ListComp l g s p)).e=some f) :
  ∃k t iter i b,n=k+1/\g=[⟨t,iter,i,0⟩]/\kZ u (λa x=>tr a k x) l t iter i s=some b/\f=U b:=by
 cases n with
 |zero=>cases h
 |succ n=>
  replace h:((L8 g).elim {} λz=>Tr.ofV (kZ u (λa x=>tr a n x) l z.1 z.2.1 z.2.2 s)).e=some f:=h;cases e:L8 g with
  |none=>rw[e]at h;cases h
  |some z=>rw[e]at h;obtain⟨x,q,rfl⟩:=ax (show mx U _=some f from h);exact⟨n,_,_,_,x,rfl,Ca e,q,rfl⟩
theorem ie{X:Cx}{T:Stmt->Option ES}(h:∀st f,T st=some f->PS X st (iG X.K f)):∀{a:List Stmt}{f:ES},rq T a=some f->gb X a (iG X.K f)
 | [],f,q=>by cases q;exact Mh
 | [s],f,q=>FV (h s f q)
 |s::t::r,f,q=>by obtain⟨x,e,q⟩:=af q;obtain⟨y,n,rfl⟩:=ax q;exact I_ (h s x e) (ie h n)
theorem XOk.more{u:Cn}{X:Cx}(h:XOk u X)(E:VP)(p:PN):XOk u (jJ X E p):=⟨h.hN,h.nd,h.ks,h.kd,h.calm,h.hu,h.fns,h.blt,h.glb,h.attrs,h.meths,h.mks,h.exs,h.ys,h.ws⟩
structure OnStack(X:Cx):Prop where
 stk:X.k=X.e::X.o
 frm:X.e.frame=some X.e.locals
 ex:X.ex=[]
theorem yB{u:Cn}{X:Cx}(h:XOk u X){n:Nat}{a:Ab}{s:lr}(q:oB (a.map λw=>(tr u n w).e)=some s):PA X a (s0 X.K s)/\∀e ∈ a,eC e:=ko (λe _=>iF n u X h e) q
theorem Ch{u:Cn}{X:Cx}(h:XOk u X){n:Nat}{f:Str}{v q:Pos}{r:Ab}{s:lr}{g:GX}(d:u.Y f=some g)(m:bx u.ks f [.globalImplicit]=true)(t:cB f=true)(p:r.isEmpty=false)(H:oB (r.map λw=>(tr u n w).e)=some s):PE X (.Call (.Name f v) r [] q) (DO X (ny g s)):=by
 obtain⟨l,k,S,F,K,G,o,z,y,i⟩:=h.ys f g d;obtain⟨b,x⟩:=yB h H;cases r with
 |nil=>cases p
 |cons a c=>exact F5 G l o (h.gl m) z y i b (bU t).1 (x a aZ _ _) (fC λe j=>x e (a_ _ j))
theorem Gg{u:Cn}{X:Cx}(h:XOk u X)(r:∀x,X.fn x=true)(K:OnStack X){n:Nat}{x y c f v:Str}{Q F H A np yp zp z o P:Pos}{a:Ab}{M:GX}{i j k:Nat}{L:EE}{B:lr}(hY:u.Y f=some M)
  (D:bx u.ks x [.local,.cell]=true) (T:bx u.ks y [.local,.cell]=true) (V:bx u.ks f [.globalImplicit]=true) (W:cB f=true) (Z:a.isEmpty=false) (c6:bx u.ks c [.globalImplicit]=true) (c7:cB c=true) (G:(u.E.any λw=>decide (w.1=c))=true) (I:bx u.ks v [.local]=true) (t:cB v=true)
  (qi:gO u.N x=some i) (qj:gO u.N y=some j) (N:gO u.N v=some k) (q1:∀E p,PE (jJ X E p) (.Call (.Name f F) a [] H) (tE X.K L)) (q2:oB (a.map λw=>(tr u n w).e)=some B) :
  PS X (.Try [.Assign [.Name x Q] (.Call (.Name f F) a [] H) A] [.ExceptHandler (some (.Name c np)) (some v) [.Assign [.Name y yp] (.Name v zp) z] o] [] [] P) (iG X.K (u1 (aP i L) (ny M B) (λm=>u.R.contains m && (u.E.lookup m).any λs=>s.contains c) k (aP j (ej k)))):=by
 obtain⟨R,ns2,g⟩:=h.exs.own c G;have d:swapsWith (.Call (.Name f F) a [] H) (some (.Name x Q)) A.line X.e=pure false:=rfl;refine IY K.stk K.frm K.ex h.nd (h.gl c6) g (bU c7).1 (h.get N) (h.local I) (λE p=>?_) (λE p=>?_) (λe=>?_) λm C q ns=>?_
 .have b:=h.more E p;exact FV (X:=jJ X E p) (yF (X:=jJ X E p) i b.nd (q1 E p) (b.get qi) (b.loc D) d (.inl (r x)))
 .have b:=h.more E p;exact mR (Jv (X:=jJ X E p) i b.nd (Ch b hY V W Z q2) (b.get qi) (b.loc D) d (.inl (r x)))
 .exact FV (X:=i5 X e) (yF (X:=i5 X e) j h.nd (Jl (X:=i5 X e) k (h.get N) (.inl (h.local I)) (bU t).1 (bU t).2) (h.get qj) (h.loc T) rfl (.inl (r y)))
 .obtain⟨hR,l⟩:=Bool.and_eq_true_iff.mp (show(u.R.contains m && (u.E.lookup m).any λs=>s.contains c)=true from q);cases S:u.E.lookup m with
  |none=>rw[S]at l;cases l
  |some s=>rw[S]at l;exact((h.exs.cl m s C hR S ns).2.2.2 c R G g).2 l
theorem Gk{u:Cn}{X:Cx}(h:XOk u X)(r:∀x,X.fn x=true){n:Nat}{t v:Expr}{E:Pos}{f:ES}(q:Oa u n t v=some f):PS X (.Assign [t] v E) (iG X.K f):=by
 have g:=iF n u X h;have Z:X.A.units+1 < cLine:=by have:=h.hu;lia
 rcases kz q with ⟨x,C,w⟩|⟨_,w⟩
 .clear q;obtain⟨D,rfl⟩:=fL C;split at w
  .rename_i F;obtain⟨i,qi,q⟩:=af w;split at q
   .rename_i M;rw[aC]at M;obtain⟨L,s,rfl⟩:=ax q;exact yF i h.nd (nH h s).1 (h.get qi) (h.loc F) ((nH h s).2 (by simpa using M.2) _ _ _) (.inl (r x))
   .rcases kz q with ⟨P,m,q⟩|⟨_,q⟩
    .split at m
     .obtain⟨a,s,rfl⟩:=ax q;obtain⟨p,rfl⟩:=tZ m;exact yF i h.nd (Ft (gy (λe _=>g e) s).1) (h.get qi) (h.loc F) rfl (.inl (r x))
     .cases m
    .obtain⟨L,s,rfl⟩:=ax q;cases A:jb v with
     |false=>exact yF i h.nd ((g v).e L s) (h.get qi) (h.loc F) ((nP s).sw A _ _ _) (.inl (r x))
     |true=>
      have c:v.ctorIdx=8:=eq_of_beq A;clear q A w;revert s;refine Expr.ListComp.elim v c fun a W c d s=>?_;obtain⟨k,G,iter,y,T,rfl,rfl,S,rfl⟩:=DJ s;have I:=um (o:=d) h (iF k) S;have K:swapsWith (.ListComp a [⟨G,iter,y,0⟩] c d) (some (.Name x D)) E.line X.e=pure (X.e.blockKind == .function && X.e.kindOf x == some .local && D.line == (Expr.ListComp a [⟨G,iter,y,0⟩] c d).pos.line
       && !(c.names.any λ(n,k)=>n == x && (k == .local ||k == .cell))):=rfl
      revert K;generalize (X.e.blockKind == .function && X.e.kindOf x == some .local && D.line == (Expr.ListComp a [⟨G,iter,y,0⟩] c d).pos.line && !(c.names.any λ(n,k)=>n == x && (k == .local ||k == .cell)))=b;intro K;cases b with
      |true=>exact I.2 i h.nd K (h.get qi) (h.loc F) (.inl (r x))
      |false=>exact yF i h.nd (IB I.1) (h.get qi) (h.loc F) K (.inl (r x))
  .cases w
 rcases kz w with ⟨⟨o,f,R⟩,Q,j⟩|⟨_,j⟩
 .clear q w;cases sK Q;rcases kz j with ⟨P,m,q⟩|⟨_,H⟩
  .clear j;obtain⟨p,rfl⟩:=tZ m;obtain⟨x,s,q⟩:=af q;obtain⟨a,S,rfl⟩:=ax q;exact IZ h.attrs ((g o).e x s) (Ft (gy (λe _=>g e) S).1) rfl
  clear j;split at H
  .cases H
  .rename_i l;obtain⟨x,s,q⟩:=af H;obtain⟨z,S,rfl⟩:=ax q;exact IZ h.attrs ((g o).e x s) (nH h S).1 ((nH h S).2 (by simpa using l) _ _ _)
 .clear q w;split at j
  .cases j
  rename_i l;obtain⟨P,m,H⟩:=af j;clear j;obtain⟨c,p,rfl⟩:=nD m;split at H
  .cases H
  .rename_i B;obtain⟨V,s,q⟩:=af H;obtain⟨z,N,rfl⟩:=ax q;exact Mf ((g v).v z N) (As h.calm h.hN h.nd (λx C=>⟨h.loc C,.inl (r x)⟩) s) (show swapsWith v (some (.Tuple P c p)) E.line X.e=pure false from(jX N).sw (by simpa using l) _ _ _) (Bf B) rfl
theorem nG{u:Cn}{X:Cx}(h:XOk u X)(w:∀x,X.fn x=true)(N:PassesOwn (model X.p X.w) X.A X.e X.xe)(W:OnStack X):∀n (st:Stmt) (f:ES),yL u n st=some f->PS X st (iG X.K f)
 |0,st,f,q=>by cases q
 |n+1,st,f,q=>by
  have A:=nG h w N W n;have g:=iF n u X h;cases st with
  |Assign ts F sp=>obtain⟨t,K,d⟩:=af q;clear q;cases d6 K;exact Gk h w d
  |Return r p=>obtain⟨e,K,d⟩:=af q;cases (show r=some e from K);clear q K;obtain⟨x,k,rfl⟩:=ax d;exact Mg ((g _).e x k)
  |Expr e p=>
   replace q:(if jb e=true then none else (tr u n e).e.map aQ)=some f:=q;split at q
   .cases q
   .rename_i M;obtain⟨x,k,rfl⟩:=ax q;exact I0 ((g _).e x k) ((nP k).sw (by simpa using M) _ _ _)
  |Raise e c p=>cases q;exact FW
  |Continue p=>cases q;exact OI
  |AugAssign t op F p=>
   cases op with
   |Add=>
    rcases kz q with ⟨x,Q,d⟩|⟨_,d⟩
    .clear q;obtain⟨px,rfl⟩:=fL Q;split at d
     .rename_i hk;obtain⟨i,qi,q⟩:=af d;obtain⟨z,H,rfl⟩:=ax q;exact Mj i h.nd ((g _).v z H) (h.get qi) (h.loc hk) (.inl (w _))
     .cases d
    .clear q;obtain⟨⟨o,m,ap⟩,hz,B⟩:=af d;clear d;cases sK hz;obtain⟨x,k,q⟩:=af B;obtain⟨z,H,rfl⟩:=ax q;exact Jb h.attrs ((g _).e x k) ((g _).v z H)
   |_=>cases q
  |While c P l p=>
   cases l with
   |cons _ _=>cases q
   |nil=>obtain⟨c,k,q⟩:=af q;obtain⟨b,H,rfl⟩:=ax q;exact FU N ((g _).b c k) (ie A H)
  |Try b hd l I p=>
   have S:Ao u (λy=>tr u n y) (λy=>JC u n 5 y) b hd l I=some f:=q;unfold Ao at S;split at S
   .rename_i L;rw[aC]at L;cases mF.mp L.1;cases mF.mp L.2;obtain⟨s,K,d⟩:=af S;obtain⟨⟨x,v⟩,b2,B⟩:=af d;obtain⟨⟨f,R⟩,b3,Z⟩:=af B;obtain⟨hh,b4,p3⟩:=af Z;obtain⟨⟨c,nm,bb⟩,b5,p4⟩:=af p3;obtain⟨s2,b6,p5⟩:=af p4;obtain⟨⟨y,v2⟩,b7,p6⟩:=af p5;obtain⟨z,b8,p7⟩:=af p6;obtain⟨gx,hY,C⟩:=af p7;clear q S d B Z p3 p4 p5 p6 p7;obtain⟨fp,cp,rfl⟩:=jh b3;obtain⟨xp,ap,rfl⟩:=yz b2;obtain⟨zp,rfl⟩:=fL b8;obtain⟨yp,ap2,rfl⟩:=yz b7;cases d6 b6;obtain⟨np,V,rfl⟩:=EJ b5;cases d6 K;cases d6 b4;dsimp only at C;split at C
    .rename_i T;simp only[aC,mu]at T;obtain⟨⟨⟨⟨⟨⟨⟨⟨⟨⟨c1,c2⟩,c3⟩,c4⟩,c5⟩,c6⟩,c7⟩,c8⟩,c9⟩,D⟩,G⟩:=T;obtain⟨i,qi,q⟩:=af C;obtain⟨j,qj,q⟩:=af q;obtain⟨kk,qk,q⟩:=af q;obtain⟨fe,k,q⟩:=af q;obtain⟨as,H,rfl⟩:=ax q;cases bq D;refine Gg h w W hY c1 c2 c3 c4 c5 c6 c7 c8 c9 G qi qj qk (λE pn=>?_) H;split at k
     .exact (nH (h.more E pn) k).1
     .exact (iF n u _ (h.more E pn) _).e fe k
    .cases C
   .cases S
  |If c a b p=>obtain⟨c,k,q⟩:=af q;obtain⟨x,H,q⟩:=af q;obtain⟨y,q3,rfl⟩:=ax q;exact OH ((g _).b c k) (ie A H) (ie A q3)
  |For tg iter P l p=>
   cases l with
   |cons _ _=>cases q
   |nil=>obtain⟨gg,S,q⟩:=af q;obtain⟨it,k,q⟩:=af q;obtain⟨b,H,rfl⟩:=ax q;exact Mi N h.calm (FH h g k) (As h.calm h.hN h.nd (λx Q=>⟨h.loc Q,.inl (w x)⟩) S) (ie A H) λx=>tY k _ x
  |_=>cases q
end Ev
namespace Ev
open PySem PySem.Spec PyProof.Rows L2
def sY(T:Stmt->Option ES)(h:Stmt->EX):List Stmt->EX
 | []=>iU
 | [s]=>h s
 |s::r=>match T s with
  |some f=>cP f (h s) (sY T h r)
  |none=>h s
def JA(u:Cn)(n:Nat)(e c:Option Expr):Option EX:=if c.isSome=true then none else e.bind λe=>(pE e).bind λz=>(kt z.2).bind λa=>(CJ.lookup z.1).bind λf=>(tr u n a).v.bind λv=>if (bx u.ks z.1 [.globalImplicit] && cB z.1)=true then some (b' z.1 f v) else none
def Gj(u:Cn)(n:Nat)(e:Expr):Option EX:=(Mb e).bind λz=>(tr u n z.1.1).e.bind λo=>(oB (z.2.1.map λw=>(tr u n w).e)).bind λa=>if (EF z.1.1 && (z.1.2.2.endLine == z.2.2.line) && decide (z.2.1.length < 29))=true then some (be u.W o z.1.2.1 a) else none
def ID(u:Cn):Nat->Stmt->EX
 |0,_=>iU
 |n+1,st=>match st with
  | .Raise e c _=>(JA u n e c).getD iU
  | .Return e _=>(e.bind λe=>Gj u n e).getD iU
  | .Expr e _=>(Gj u n e).getD iU
  | .If c a b _=>((tr u n c).b.map λq=>d8 q (sY (yL u n) (ID u n) a) (sY (yL u n) (ID u n) b)).getD iU
  | .While c o l _=>(if l.isEmpty=false then none else (tr u n c).b.bind λq=>(rq (yL u n) o).map λb=>uM 1000 q b (sY (yL u n) (ID u n) o)).getD iU
  |_=>iU
theorem ky{X:Cx}{E:XK}{st:Stmt}{o:Option EX}(h:∀f,o=some f->PS X st (tX X E f)):PS X st (tX X E (o.getD iU)):=by
 cases o with
 |none=>exact Gb
 |some f=>exact h f rfl
theorem rn{X:Cx}{E:XK}{T:Stmt->Option ES}{a:Stmt->EX}(e:∀st f,T st=some f->PS X st (iG X.K f))(x:∀st,PS X st (tX X E (a st))):∀h:List Stmt,gb X h (tX X E (sY T a h))
 | []=>Mq
 | [s]=>Jg (x s)
 |s::t::r=>by
  unfold sY;split
  .rename_i k n;exact FZ (e s k n) (x s) (rn e x (t::r))
  .exact (kq (x s) (la (X:=X))).imp' λ_ _ _ z=>z
theorem rA{u:Cn}{X:Cx}(h:XOk u X){n:Nat}{e:Expr}{f:EX}(q:Gj u n e=some f):PE X e (DO X f)/\∀t l v,swapsWith e t l v=pure false:=by
 obtain⟨⟨⟨o,m,i⟩,s,z⟩,j,d⟩:=af q;obtain⟨x,k,w⟩:=af d;obtain⟨K,b,p⟩:=af w;clear q d w;cases Ir j;dsimp only at k b p;split at p
 .rename_i c;cases p;simp only[aC]at c;obtain⟨g,a⟩:=yB h b;have H:s.length < 29:=bq c.2;have r:=Bq (o:=o) (y:=m) (j:=i) (E:=z) (r:=s) (v:=X.e) (lI c.1.1) (ye a H) c.1.2;refine⟨?_,λ_ _ _=>rfl⟩;cases s with
  |nil=>cases b;exact Dq h.ws ((iF n u X h _).e x k) r
  |cons e F=>exact F0 h.ws ((iF n u X h _).e x k) g (a e aZ _ _) (fC λy S=>a y (a_ _ S)) r
 .cases p
theorem An{u:Cn}{X:Cx}{E:XK}(h:XOk u X)(s:∀x,X.fn x=true)(r:PassesOwn (model X.p X.w) X.A X.e X.xe)(g:OnStack X)(l:Leaves X E)(P:X.A.depth+5 < recursionLimit):∀(n:Nat)(st:Stmt),PS X st (tX X E (ID u n st))
 |0,st=>Gb
 |n+1,st=>by
  have N:=An h s r g l P n;have i:∀t,gb X t (tX X E (sY (yL u n) (ID u n) t)):=rn (λst f q=>nG h s r g n st f q) N;cases st with
  |Raise e c p=>
   refine ky λf q=>?_;have m:=q;clear q;unfold JA at m;split at m
   .cases m
   rename_i M;cases c with
   |some _=>exact absurd rfl M
   |none=>
    obtain⟨e,rfl,A⟩:=af m;obtain⟨⟨c,R⟩,I,B⟩:=af A;obtain⟨a,L,C⟩:=af B;obtain⟨K,S,G⟩:=af C;obtain⟨v,F,y⟩:=af G;clear m A B C G;obtain⟨_,_,rfl⟩:=jh I;cases d6 L;split at y
    .rename_i w;cases y;rw[aC]at w;obtain⟨D,k,j⟩:=h.exs.own c (h.exs.zE c K S);exact z_ l h.calm P (h.gl w.1) k j (bU w.2).1 (h.exs.ri c K D S k).2 ((iF n u X h a).v v F) ((jX F).st _ _)
    .cases y
  |Return e p=>refine ky λf q=>?_;obtain⟨e,rfl,q⟩:=af q;exact(Jw (rA h q).1).imp' λ_ _ _ z=>JF l z
  |Expr e p=>exact ky λf q=>(Gc (rA h q).1 ((rA h q).2 _ _ _)).imp' λ_ _ _ z=>JF l z
  |If c a b p=>refine ky λf q=>?_;obtain⟨c,H,rfl⟩:=ax q;exact MH ((iF n u X h _).b c H) (i a) (i b)
  |While c o d p=>
   refine ky λf q=>?_;cases d with
   |cons _ _=>cases q
   |nil=>obtain⟨c,H,q⟩:=af q;obtain⟨b,Q,rfl⟩:=ax q;exact Dt r ((iF n u X h _).b c H) (ie (λst f q=>nG h s r g n st f q) Q) (i o)
  |_=>exact Gb
end Ev
namespace Ev
open PySem PySem.Spec PyProof.Rows L2
structure Df where
 name:Str
 short:Str
 cls:Str
 st:Stmt
 N:LS
 ps:LS
 own:LS
 deep:LS
 refs:LS
noncomputable abbrev At:=List (Str×LS)
noncomputable def aT(T:At)(c f:Str):Bool:=T.any λx=>decide (x.1=c) && x.2.contains f
noncomputable def fT(D:List Df)(h:Str->GF)(x:Str):Option GF:=if (D.any λd=>decide (d.name=x) && d.cls.cps.isEmpty)=true then some (h x) else none
noncomputable def KW(c m:Str)(d:Df):Bool:=decide (d.cls=c) && decide (d.short=m) && !d.cls.cps.isEmpty
def mT(D:List Df)(h:Str->GF)(c m:Str):Option GF:=if m=("__init__":Str) then none else (D.find? (KW c m)).map λd=>h d.name
def Nx(D:List Df)(h:Str->GF)(c:Str):Option GF:=(D.find? (KW c "__init__")).map λd=>h d.name
noncomputable abbrev Ex:=List (Str×LS)
noncomputable abbrev P3:=(Str->GF)×(Str->Option GF)×(Str->GX)
noncomputable def Ml(D:List Df)(h:Str->GX)(x:Str):Option GX:=if (D.any λd=>decide (d.name=x) && d.cls.cps.isEmpty)=true then some (h x) else none
def wT(D:List Df)(h:Str->GX)(c m:Str):Option GX:=if m=("__init__":Str) then none else (D.find? (KW c m)).map λd=>h d.name
def II(G:Str->Option P)(T:At)(E:Ex)(R:LS)(D:List Df)(p:P3)(d:Df):Cn:=⟨d.N,d.own,d.deep,d.refs,(ac d.st).names,fT D p.1,G,aT T,mT D p.1,p.2.1,E,R,Ml D p.2.2,wT D p.2.2⟩
def sI(G:Str->Option P)(T:At)(E:Ex)(R:LS)(D:List Df)(p:P3)(d:Df):ES:=(rq (yL (II G T E R D p d) 60) (aA d.st)).getD bj
def ur(G:Str->Option P)(T:At)(E:Ex)(R:LS)(D:List Df)(p:P3)(d:Df):EX:=sY (yL (II G T E R D p d) 60) (ID (II G T E R D p d) 60) (aA d.st)
noncomputable def bh(R:LS)(g:GX):GX:=λd S=>(g d S).bind λz=>if R.contains z.1.1=true then some z else none
def jE(G:Str->Option P)(T:At)(E:Ex)(R:LS)(D:List Df):Nat->P3
 |0=>(λ_ _ _=>none,λ_=>none,λ_ _ _=>none)
 | n+1=>(fun x=>match D.find? fun d=>decide (d.name=x) with
  |some d=>bR d.ps.length d.N.length (sI G T E R D (jE G T E R D n) d)
  |none=>λ_ _=>none,Nx D (jE G T E R D n).1,λx=>match D.find? λd=>decide (d.name=x) with
  |some d=>bh R (fnX d.ps.length d.N.length (ur G T E R D (jE G T E R D n) d))
  |none=>λ_ _=>none)
noncomputable def aF(G:Str->Option P)(T:At)(E:Ex)(R:LS)(D:List Df)(n:Nat):Str->GF:=(jE G T E R D n).1
noncomputable def cO(G:Str->Option P)(T:At)(E:Ex)(R:LS)(D:List Df)(n:Nat):Str->GX:=(jE G T E R D n).2.2
theorem t8{R:LS}{g:GX}{d:List D}{S:aL}{z:XV×aL}(h:bh R g d S=some z):g d S=some z/\R.contains z.1.1=true:=by
 obtain⟨y,e,q⟩:=Option.bind_eq_some_iff.mp h;split at q
 .rename_i c;cases q;exact⟨e,c⟩
 .cases q
def LG(d:Df):Bool:=decide ((ac d.st).kind=.function) && !(ac d.st).isCoroutine && !(ac d.st).isGenerator && decide d.N.Nodup && decide (d.N.take d.ps.length=d.ps)
 && d.ps.all (λx=>(ac d.st).names.lookup x == some .local ||(ac d.st).names.lookup x == some .cell) && (ac d.st).names.all (λy=>y.2 != .free)
theorem AK{d:Df}(h:LG d=true):FnScope d.N d.ps (ac d.st):=by
 unfold LG at h;simp only[aC]at h;obtain⟨⟨⟨⟨⟨⟨a,e⟩,s⟩,n⟩,k⟩,f⟩,b⟩:=h;refine⟨bq a,by simpa using e,by simpa using s,bq n,bq k,λx c=>?_,λy m=>?_⟩
 .have:=b9.mp f x c;simpa using this
 .have:=b9.mp b y m;simpa using this
structure DOk(K:FG)(mg:SV)(d:Df)(f:Addr)(fd:FuncData):Prop where
 fn:Fun K d.short d.name d.st f fd
 bd:Binds K fd d.ps []
 gl:d.cls.cps.isEmpty=true->mg d.name=some (.ref f)
 cl:d.cls.cps.isEmpty=false->∃C,eX K d.cls C/\mg d.cls=some (.ref C)/\Cls K C/\(d.short=("__init__":Str)->Mk K C f)/\(d.short≠("__init__":Str)->Meth K C d.short f)
structure TOk(w:World)(G:Str->Option P)(T:At)(E:Ex)(R:LS)(D:List Df)(K:FG)(mg:SV):Prop where
 ex:ExsOk K mg E R
 fn:∀d ∈ D,∃f fd,DOk K mg d f fd
 sc:D.all LG=true
 un:(D.map (·.name)).Nodup
 z:∀x ∈ Fg,mg x=none
 gl:∀x v,G x=some v->gI w K mg x v
 at':Lx K (aT T)
theorem j6:∀{D:List Df}{d:Df},(D.map (·.name)).Nodup->d ∈ D->(D.find? λe=>decide (e.name=d.name))=some d
 | [],_,_,h=>by cases h
 |a::r,d,x,h=>by
  rw[aU,fk]at x;rcases av.mp h with h|h
  .subst h;simp
  .have n:¬a.name=d.name:=λz=>x.1 (by rw[z];exact hV.mpr ⟨d,h,rfl⟩);rw[List.find?_cons_of_neg (by simpa using n)];exact j6 x.2 h
theorem Cw{D:List Df}{x:Str}{a:Str->GF}{g:GF}(h:fT D a x=some g):∃d ∈ D,d.name=x/\d.cls.cps.isEmpty=true/\g=a x:=by
 unfold fT at h;split at h
 .rename_i c;cases h;obtain⟨d,s,e⟩:=mE.mp c;rw[aC]at e;exact⟨d,s,bq e.1,e.2,rfl⟩
 .cases h
theorem vl{c m:Str}{d:Df}(h:KW c m d=true):d.cls=c/\d.short=m/\d.cls.cps.isEmpty=false:=by unfold KW at h;simp only[aC]at h;exact⟨bq h.1.1,bq h.1.2,by simpa using h.2⟩
theorem Cy{D:List Df}{x:Str->GF}{c m:Str}{g:GF}(h:mT D x c m=some g):m≠("__init__":Str)/\∃d ∈ D,d.cls=c/\d.short=m/\d.cls.cps.isEmpty=false/\g=x d.name:=by
 unfold mT at h;split at h
 .cases h
 .rename_i n;obtain⟨d,q,rfl⟩:=ax h;obtain⟨a,e,s⟩:=vl (mz q);exact⟨n,d,mK q,a,e,s,rfl⟩
theorem Cz{D:List Df}{x:Str->GF}{c:Str}{g:GF}(h:Nx D x c=some g):∃d ∈ D,d.cls=c/\d.short=("__init__":Str)/\d.cls.cps.isEmpty=false/\g=x d.name:=by unfold Nx at h;obtain⟨d,q,rfl⟩:=ax h;obtain⟨a,e,s⟩:=vl (mz q);exact⟨d,mK q,a,e,s,rfl⟩
theorem Ln{D:List Df}{x:Str}{a:Str->GX}{g:GX}(h:Ml D a x=some g):∃d ∈ D,d.name=x/\d.cls.cps.isEmpty=true/\g=a x:=by
 unfold Ml at h;split at h
 .rename_i c;cases h;obtain⟨d,s,e⟩:=mE.mp c;rw[aC]at e;exact⟨d,s,bq e.1,e.2,rfl⟩
 .cases h
theorem Lo{D:List Df}{x:Str->GX}{c m:Str}{g:GX}(h:wT D x c m=some g):m≠("__init__":Str)/\∃d ∈ D,d.cls=c/\d.short=m/\d.cls.cps.isEmpty=false/\g=x d.name:=by
 unfold wT at h;split at h
 .cases h
 .rename_i n;obtain⟨d,q,rfl⟩:=ax h;obtain⟨a,e,s⟩:=vl (mz q);exact⟨n,d,mK q,a,e,s,rfl⟩
theorem zo{K:FG}{m:SV}{E:Ex}{R:LS}(h:ExsOk K m E R)(g:GX):zq K (bh R g):=λd S c x q=>by obtain⟨C,n,_⟩:=h.own c.1 (h.rE c.1 (t8 q).2);exact⟨C,n⟩
theorem yj {G:Str->Option P}{T:At}{E:Ex}{R:LS}{D:List Df}{Pg:Program}{w:World}{K:FG}{mg:SV}{base:Heap} (Tk:TOk w G T E R D K mg):∀n,(∀d ∈ D,
  ∀f fd,Fun K d.short d.name d.st f fd->FnOk Pg w K mg base ow n f fd d.ps (oF K (aF G T E R D n d.name))/\FnOk Pg w K mg base (ux Pg w) n f fd d.ps (AE K (cO G T E R D n d.name))) /\
  (∀x,zq K (cO G T E R D n x)) /\
  ∀c g,(jE G T E R D n).2.1 c=some g->∃m,n=m+1/\∃C f fd ps,eX K c C/\mg c=some (.ref C)/\Mk K C f/\FnOk Pg w K mg base ow m f fd ps (oF K g)/\Binds K fd ps []
 |0=>by
  have no:∀x vs H Q E0,¬AE K (cO G T E R D 0 x) vs H Q E0:=λx vs H Q E0 h=>by obtain⟨F,m,ds,S,c,S',_,_,q,_⟩:=h;cases (show(none:Option (XV×aL))=some (c,S') from q)
  refine⟨λd hd f fd hF=>⟨BV,λvs H Q E0 h=>absurd h (no _ vs H Q E0),λA outer s H args us vs Q E0 _ _ _ _ h=>absurd h (no _ vs H Q E0)⟩,λx=>λds S c S' q=>?_,λc g h=>?_⟩
  .cases (show(none:Option (XV×aL))=some (c,S') from q)
  .cases (show(none:Option GF)=some g from h)
 |n+1=>by
  have ih:=yj (Pg:=Pg) (w:=w) (base:=base) Tk n;refine⟨λd hd f fd hF=>?_,λx=>?_,λc g h=>?_⟩
  .have e:aF G T E R D (n+1) d.name=bR d.ps.length d.N.length (sI G T E R D (jE G T E R D n) d):=by
    show(match D.find? λd'=>decide (d'.name=d.name) with|some d=>bR d.ps.length d.N.length (sI G T E R D (jE G T E R D n) d)|none=>λ_ _=>none)=_;rw[j6 Tk.un hd]
   have ex:cO G T E R D (n+1) d.name=bh R (fnX d.ps.length d.N.length (ur G T E R D (jE G T E R D n) d)):=by show(match D.find? λd'=>decide (d'.name=d.name) with|some d=>bh R (fnX d.ps.length d.N.length (ur G T E R D (jE G T E R D n) d))|none=>λ_ _=>none)=_;rw[j6 Tk.un hd]
   rw[e,ex];have hsc:=AK (b9.mp Tk.sc d hd);have XO:∀(cdv:Value)(A:Around)(outer:List Env)(s:Shared)(H:Hp)(E':XK),Room n (A.deeper (envOfC d.name (ac d.st) s.heap.objs.size f cdv)) ->
     XOk (II G T E R D (jE G T E R D n) d) (lX (ux Pg w) Pg w K mg base d.N d.name (ac d.st) f cdv A outer s H E'):=fun cdv A outer s H E' hr=>{
    hN:=rfl
    nd:=hsc.nd
    ks:=rfl
    kd:=hsc.kind
    calm:=rfl
    hu:=by have:=hr.un;show(A.deeper (envOfC d.name (ac d.st) s.heap.objs.size f cdv)).units+64 < _;lia
    fns:=λx g hg=>by obtain⟨d',hd',hn,hc,rfl⟩:=Cw hg;obtain⟨f',fd',h1⟩:=Tk.fn d' hd';subst hn;exact⟨n,f',fd',d'.ps,(ih.1 d' hd' f' fd' h1.fn).1,hr,h1.gl hc,h1.fn.kp,h1.bd⟩
    blt:=Tk.z
    glb:=Tk.gl
    attrs:=Tk.at'
    meths:=λc m g hg=>by obtain⟨hm,d',hd',rfl,rfl,hc,rfl⟩:=Cy hg;obtain⟨f',fd',h1⟩:=Tk.fn d' hd';obtain⟨C,c1,c2,c3,c4,c5⟩:=h1.cl hc;exact⟨C,n,f',fd',d'.ps,c1,c3,c5 hm,(ih.1 d' hd' f' fd' h1.fn).1,hr,h1.bd⟩
    mks:=λc g hg=>by obtain⟨m,rfl,C,f',fd',ps,c1,c2,c3,c4,c5⟩:=ih.2.2 c g hg;exact⟨C,m,f',fd',ps,c1,c2,c3,c4,hr,c5⟩
    exs:=Tk.ex
    ys:=λx gx hg=>by obtain⟨d',hd',hn,hc,rfl⟩:=Ln hg;obtain⟨f',fd',h1⟩:=Tk.fn d' hd';subst hn;exact⟨ih.2.1 d'.name,n,f',fd',d'.ps,(ih.1 d' hd' f' fd' h1.fn).2,hr,h1.gl hc,h1.fn.kp,h1.bd⟩
    ws:=λc m g hg=>by obtain⟨hm,d',hd',rfl,rfl,hc,rfl⟩:=Lo hg;obtain⟨f',fd',h1⟩:=Tk.fn d' hd';obtain⟨C,c1,c2,c3,c4,c5⟩:=h1.cl hc;exact⟨C,n,f',fd',d'.ps,c1,c3,c5 hm,(ih.1 d' hd' f' fd' h1.fn).2,ih.2.1 d'.name,hr,h1.bd⟩ }
   refine⟨HJ (N:=d.N) hF hsc λcdv A outer s H E' hr=>?_,FnOk.imp (HI (N:=d.N) (b:=ur G T E R D (jE G T E R D n) d) hF hsc (λr=>r.toSt) λcdv A outer s H E' hr=>?_) λvs H Q E' h=>?_⟩
   .have X:XOk (II G T E R D (jE G T E R D n) d) (lX ow Pg w K mg base d.N d.name (ac d.st) f cdv A outer s H E').nox:=(XO cdv A outer s H E' hr).more (λ_ _=>False) [];unfold sI;cases q:rq (yL (II G T E R D (jE G T E R D n) d) 60) (aA d.st) with
    |none=>exact la.imp' λD J H hz=>by obtain⟨F,m,L,S,fl,L',S',r,l,q,k⟩:=hz;cases q
    |some b=>exact ie (λst f q=>nG X (λ_=>rfl) PassesOwn.never ⟨rfl,rfl,rfl⟩ 60 st f q) q
   .have X:=XO cdv A outer s H E' hr;exact rn (λst f q=>nG X (λ_=>rfl) PassesOwn.leaving ⟨rfl,rfl,rfl⟩ 60 st f q) (λst=>An X (λ_=>rfl) PassesOwn.leaving ⟨rfl,rfl,rfl⟩ ⟨rfl,rfl,rfl,rfl⟩ (by have:=hr.dp;show(A.deeper (envOfC d.name (ac d.st) s.heap.objs.size f cdv)).depth+5 < _;lia) 60 st) (aA d.st)
   .obtain⟨F,m,ds,S,c,S',rl,r,q,k⟩:=h;exact⟨F,m,ds,S,c,S',rl,r,(t8 q).1,k⟩
  .show zq K (match D.find? λd'=>decide (d'.name=x) with|some d=>bh R (fnX d.ps.length d.N.length (ur G T E R D (jE G T E R D n) d))|none=>λ_ _=>none);split
   .exact zo Tk.ex _
   .exact λds S c S' q=>nomatch q
  .obtain⟨d,hd,rfl,hs,hc,rfl⟩:=Cz (x:=(jE G T E R D n).1) h;obtain⟨f,fd,h1⟩:=Tk.fn d hd;obtain⟨C,c1,c2,c3,c4,c5⟩:=h1.cl hc;exact⟨n,rfl,C,f,fd,d.ps,c1,c2,c4 hs,(ih.1 d hd f fd h1.fn).1,h1.bd⟩
end Ev
namespace Ev
open PySem PySem.Spec PyProof.Rows L2
theorem t0{K:FG}{F:Aa}{H:Hp}:∀s:List Int,cI K F H (s.map .int) (s.map V.int)
 | []=>rfl
 |n::r=>⟨_,_,rfl,rfl,t0 r⟩
theorem Hl{K:FG}{H:Hp}{a:Addr}{n:List Int}{g:GF}{E:XK}(e:zB H)(S:iA K H a (n.map V.int))(h:jH g [.ro (n.map .int)]=some (.bl true)):oF K g [.ref a] H (λv _=>v=.bl true) E:=by
 refine nK ⟨λb=>b=a/\H a≠none,[.ro (n.map .int)],.bl true,λb x=>(by rw[x.1];exact x.2),⟨_,_,rfl,⟨a,_,rfl,?_,t0 n⟩,rfl⟩,h,λv F k _ r=>r⟩;rcases S with S|S
 .rcases e a with z|⟨o,f,z⟩
  .rcases S with S|⟨o,S⟩<;>rw[z]at S<;>cases S
  .rcases S with S|⟨s,S⟩
   .rw [z]at S;cases S
   .exact .inl ⟨⟨rfl,by rw[z];exact λq=>nomatch q⟩,s,S⟩
 .exact .inr (.inr S)
end Ev
namespace Ev
open PySem L2
section
variable(L:Lc)(S:aL)
@[simp] theorem yg(i:Nat):ej i L S=match L[i]? with|some (some d)=>some (d,S)|_=>none:=rfl
@[simp] theorem DB(r:EE):bF r L S=bC (r L S) λd h=>match bE d h with|some n=>some (.int (n:Int),h)|none=>none:=by
 unfold bF;cases r L S with
 |none=>rfl
 |some z=>obtain⟨d,h⟩:=z;rw[hB,hB];cases bE d h<;>rfl
@[simp] theorem LP(i:Nat)(v:P):g6 i v L=some (L.set i (some (.p v))):=rfl
end
@[simp] theorem NA{h:Type}(x:List h):(few x=true)=(x.length≤1000000):=by unfold few;simp
@[simp] theorem gG(n:Nat):(iy n=true)=(n≤1000000):=by unfold iy;simp
theorem cN{a:Type}{s:List a}{i:Int}{x:a}(e:0≤i)(h:s[i.toNat]? = some x):L2.atI s i=some x:=by have l:=(bt.mp h).1;unfold L2.atI L2.ya;rw[ai e,ai (by lia)];exact h
@[simp] theorem Ll{h:Type}(x:h)(s:List h):L2.atI (x::s) 0=some x:=cN (by lia) rfl
@[simp] theorem Ma{h:Type}(x y:h)(s:List h):L2.atI (x::y::s) 1=some y:=cN (by lia) rfl
@[simp] theorem L_{h:Type}(x y z:h)(s:List h):L2.atI (x::y::z::s) 2=some z:=cN (by lia) rfl
@[simp] theorem IU{h:Type}(x y z w:h)(s:List h):L2.atI (x::y::z::w::s) 3=some w:=cN (by lia) rfl
@[simp] theorem L3(x:List P)(i:Int):mY (.tup x) (.int i)=L2.atI x i:=rfl
@[simp] theorem L4(x:List P)(i:Int):mY (.lst x) (.int i)=L2.atI x i:=rfl
@[simp] theorem NO(x:List P)(i:Int):mY (.ro x) (.int i)=L2.atI x i:=rfl
@[simp] theorem L5(k:List dX)(v:List P)(x:Str):mY (.dct k v) (.str x)=fW (.inr x) k v:=rfl
@[simp] theorem La(i j:Int):zm (.int i) (.int j)=some (.bl (decide (i=j))):=rfl
@[simp] theorem K'(i j:Str):zm (.str i) (.str j)=some (.bl (decide (i=j))):=rfl
@[simp] theorem L7(i j:Bool):zm (.bl i) (.bl j)=some (.bl (decide (i=j))):=rfl
@[simp] theorem L0(i j:Int):IK (.int i) (.int j)=some (.bl (!decide (i=j))):=rfl
@[simp] theorem LZ(i j:Str):IK (.str i) (.str j)=some (.bl (!decide (i=j))):=rfl
@[simp] theorem NK(i j:Bool):IK (.bl i) (.bl j)=some (.bl (!decide (i=j))):=rfl
@[simp] theorem Lb(i j:Int):sE (.int i) (.int j)=some (.int (i+j)):=rfl
@[simp] theorem K_(i j:Int):uj (.int i) (.int j)=if iH i j=true then some (.int (i * j)) else none:=rfl
@[simp] theorem IL(x:List P)(n:Int):jN (.tup x) (.int n)=if (iy (x.length * n.toNat) && decide (n.natAbs < 1000000))=true then some (.tup (List.replicate n.toNat x).flatten) else none:=rfl
@[simp] theorem IM(x:Str)(n:Int):jN (.str x) (.int n)=uj (.str x) (.int n):=rfl
@[simp] theorem K9(i:Int):kG (.int i)=some (.int (-i)):=rfl
theorem tt{g:GF}{ps:List P}{v:P}{S:aL}(h:g (ps.map .p) []=some (.p v,S)):jH g ps=some v:=by unfold jH;rw[h];simp
theorem cb(a n:Nat)(b:ES)(ps:List P):jH (bR a n b) ps=if ps.length=a then match b (ps.map (λp=>some (.p p))++List.replicate (n-ps.length) none) [] with
 |some (.rt d,_,S)=>(rB 9 d S).map (·.1)
 |some (.nx,_,_)=>some .non
 |_=>none else none:=by
 unfold jH bR;rw[dL,qF];by_cases h:ps.length=a
 .rw [ai h,ai h];show (match cA (b (ps.map (fun p=>some (D.p p))++List.replicate (n-ps.length) none) []) with
   |some (d,S)=>(rB 9 d S).map (λ(x:P×aL)=>x.1)
   |none=>none)=_
  cases b (ps.map (λp=>some (D.p p))++List.replicate (n-ps.length) none) [] with
  |none=>rfl
  |some z=>obtain⟨f,L,S⟩:=z;cases f<;>simp[cA]
 .rw [ar h,ar h]
theorem n8{g:jD}{b:ES}{v:P}{r:List P}{L h L2:Lc}{S x:aL}(a:g v L=some h)(e:b h S=some (.nx,L2,x)):et g b (v::r) L S=et g b r L2 x:=by simp[et,a,e]
theorem cW{c:EB}{b:ES}{n:Nat}{L L2:Lc}{S h x:aL}(a:c L S=some (true,h))(e:b L h=some (.nx,L2,x)):aV c b (n+1) L S=aV c b n L2 x:=by simp[aV,a,e]
theorem bu{c:EB}{b:ES}{n:Nat}{L:Lc}{S h:aL}(x:c L S=some (false,h)):aV c b (n+1) L S=some (.nx,L,h):=by simp[aV,x]
section
variable(L:Lc)(S:aL)
@[simp] theorem LM(a:EV):vk a L S=bC (a L S) λx h=>match x with | .int n=>if (decide (n.natAbs < 1000000))=true then some (intsFrom 0 n.toNat,h) else none|_=>none:=by
 unfold vk;cases a L S with
 |none=>rfl
 |some z=>obtain⟨x,h⟩:=z;cases x<;>first|rfl|simp
@[simp] theorem K3(g:List jD)(v:List P):yc g (.tup v) L=n5 g v L:=rfl
@[simp] theorem K1:n5 [] [] L=some L:=rfl
@[simp] theorem IH(g:jD)(s:List jD)(v:P)(h:List P):n5 (g::s) (v::h) L=match g v L with|some a=>n5 s h a|none=>none:=rfl
@[simp] theorem Nv(T:String)(v:P):BG T (.p v) S=some (fy T v):=rfl
@[simp] theorem MK(v:P):rm (.p v) S=uU v:=rfl
@[simp] theorem LB(b:Bool):uU (.bl b)=some b:=rfl
@[simp] theorem Jy(i:Int):uU (.int i)=some (i != 0):=rfl
@[simp] theorem Ol(x y:P):BU (.p x) (.p y) S=(B4 x y).map .bl:=rfl
@[simp] theorem Oj(x y:P):IJ (.p x) (.p y) S=(Ha x y).map .bl:=rfl
end
@[simp] theorem LR(i j:Int):B4 (.int i) (.int j)=some (decide (i=j)):=rfl
@[simp] theorem LQ(i j:Str):B4 (.str i) (.str j)=some (decide (i=j)):=rfl
@[simp] theorem NC(i j:Bool):B4 (.bl i) (.bl j)=some (decide (i=j)):=rfl
@[simp] theorem LK(i j:Int):Ha (.int i) (.int j)=some (!decide (i=j)):=rfl
@[simp] theorem LJ(i j:Str):Ha (.str i) (.str j)=some (!decide (i=j)):=rfl
@[simp] theorem Nm(i j:Bool):Ha (.bl i) (.bl j)=some (!decide (i=j)):=rfl
@[simp] theorem IR(i j:Int):cM (.int i) (.int j)=some (.int (i+j)):=rfl
@[simp] theorem bP(x y:Str):cM (.str x) (.str y)=sE (.str x) (.str y):=rfl
@[simp] theorem IQ(x y:List P):cM (.lst x) (.lst y)=if iy (x.length+y.length)=true then some (.lst (x++y)) else none:=rfl
@[simp] theorem IP(i j:Int):jN (.int i) (.int j)=if iH i j=true then some (.int (i * j)) else none:=rfl
@[simp] theorem IN(x:List P)(n:Int):jN (.lst x) (.int n)=if (iy (x.length * n.toNat) && decide (n.natAbs < 1000000))=true then some (.lst (List.replicate n.toNat x).flatten) else none:=rfl
theorem EL{x:List P}(h:hG 20 (.lst x)=true):B4 (.lst x) (.lst [])=some x.isEmpty:=by unfold B4;have e:hG 20 (.lst [])=true:=rfl;show(if (hG 20 (.lst x) && hG 20 (.lst []))=true then some (fh (pd (.lst x)) (pd (.lst []))) else none)=_;rw[h,e];cases x<;>rfl
section
variable(L:Lc)(S:aL)
end
section
variable(L:Lc)(S:aL)
end
section
variable{L:Lc}{S:aL}
@[simp high] theorem ND(d:D):ej 0 (some d::L) S=some (d,S):=rfl
@[simp high] theorem Qb(a:Option D)(i:Nat):ej (i+1) (a::L) S=ej i L S:=rfl
@[simp ↓ high] theorem P'{h a:Type}(x y:a):(if few ([]:List h)=true then x else y)=x:=rfl
@[simp ↓ high] theorem P_{h e:Type}(a:h)(x y:e):(if few ([a]:List h)=true then x else y)=x:=rfl
@[simp ↓ high] theorem P9{h s:Type}(a e:h)(x y:s):(if few ([a,e]:List h)=true then x else y)=x:=rfl
@[simp ↓ high] theorem P8{h n:Type}(a e s:h)(x y:n):(if few ([a,e,s]:List h)=true then x else y)=x:=rfl
@[simp ↓ high] theorem P7{h k:Type}(a e s n:h)(x y:k):(if few ([a,e,s,n]:List h)=true then x else y)=x:=rfl
@[simp ↓ high] theorem P6{h f:Type}(a e s n k:h)(x y:f):(if few ([a,e,s,n,k]:List h)=true then x else y)=x:=rfl
@[simp ↓ high] theorem P5{h b:Type}(a e s n k f:h)(x y:b):(if few ([a,e,s,n,k,f]:List h)=true then x else y)=x:=rfl
@[simp ↓ high] theorem P4{h c:Type}(a e s n k f b:h)(x y:c):(if few ([a,e,s,n,k,f,b]:List h)=true then x else y)=x:=rfl
@[simp high] theorem QA(v:P)(S:aL):rB 9 (.p v) S=some (v,S):=rfl
@[simp ↓ high] theorem Oy{h e:Type}(x:Option (h×aL))(f:h->aL->Option e):bC x f=match x with|some (a,S)=>f a S|none=>none:=rfl
@[simp ↓ high] theorem PX{h:Type}(x y:h):(if true=true then x else y)=x:=rfl
@[simp ↓ high] theorem PY{h:Type}(x y:h):(if false=true then x else y)=y:=rfl
end
end Ev
namespace Ev
open PySem L2
section
variable(L:Lc)(S:aL)
@[simp] theorem LA(s:List (Str×P))(b:EV):oA s b L S=bC (b L S) λy h=>match y with | .str k=>(s.lookup k).map λv=>(v,h)|_=>none:=rfl
@[simp] theorem M4:J0 L S=some (.ct,L,S):=rfl
@[simp] theorem IF:bj L S=none:=rfl
@[simp] theorem KN:dv L S=some (none,S):=rfl
@[simp] theorem KL(a:EV):bI a L S=bC (a L S) λv h=>match v with | .int i=>some (some i,h)|_=>none:=rfl
@[simp] theorem LX(r:EE):li r L S=bC (r L S) λd h=>match eH d h with
 |some (i,s)=>match s[s.length-1]? with
  |some x=>some (x,h.set i (.lst s.dropLast))
  |none=>none
 |none=>none:=rfl
@[simp] theorem LH(i:Nat)(v:EV):AM i v L S=match L[i]? with
 |some (some (.p (.int a)))=>bC (v L S) λy h=>match y with
  | .int b=>some (.nx,L.set i (some (.p (.int (a+b)))),h)
  |_=>none
 |_=>none:=rfl
@[simp] theorem J8(A:Str->Str->Bool)(o:EE)(f:Str)(v:EV):lw A o f v L S=bC (o L S) λd h=>match d with
 | .ref i=>match h[i]? with
  | some (.ins c m n)=>if A c f=true then (match gB f m n with
   |some (.p (.int a))=>bC (v L h) λy x=>match y,x[i]? with
    | .int b,some (.ins e k s)=>if (decide (e=c) && decide (k.length < 900))=true then some (.nx,L,x.set i (.ins c (putK f k) (oH f (.p (.int (a+b))) k s))) else none
    |_,_=>none
   |_=>none) else none
  |_=>none
 |_=>none:=rfl
end
theorem uP{c:EB}{b:ES}{n:Nat}{L L2:Lc}{S h x:aL}(a:c L S=some (true,h))(e:b L h=some (.ct,L2,x)):aV c b (n+1) L S=aV c b n L2 x:=by simp[aV,a,e]
theorem nz{c:EB}{b:ES}{n:Nat}{L L2:Lc}{S h x:aL}{d:D}(a:c L S=some (true,h))(e:b L h=some (.rt d,L2,x)):aV c b (n+1) L S=some (.rt d,L2,x):=by simp[aV,a,e]
theorem uO{c:EB}{b:ES}{n:Nat}{L:Lc}{S h:aL}(x:c L S=some (true,h))(a:b L h=none):aV c b (n+1) L S=none:=by simp[aV,x,a]
theorem yG{c:EB}{b:ES}{a:EX}{n:Nat}{L L2:Lc}{S h x:aL}(e:c L S=some (true,h))(s:b L h=some (.nx,L2,x)):cL c b a (n+1) L S=cL c b a n L2 x:=by simp[cL,e,s]
theorem z7{c:EB}{b:ES}{x:EX}{n:Nat}{L:Lc}{S h:aL}(a:c L S=some (true,h))(e:b L h=none):cL c b x (n+1) L S=x L h:=by simp[cL,a,e]
@[simp] theorem Nd(a b:String):(Str.ofString a=Str.ofString b)=(a=b):=by rw[vM,vM];exact propext ⟨λh=>String.toList_inj.mp ((List.map_inj_right λ_ _=>Char.toNat_inj.mp).mp (by simpa using h)),λh=>by rw[h]⟩
end Ev
set_option tactic.hygienic false
namespace My
theorem eE{n:Nat}(h:2≤n):∃m,n=m+2:=⟨n-2,by lia⟩
variable{n:Nat}
theorem Qa(h:4≤n):∃m,n=m+4:=⟨n-4,by lia⟩
open PySem L2 Ev
noncomputable abbrev qp(x:P):Option D:=some (.p x)
noncomputable abbrev qi(x:Int):Option D:=some (.p (.int x))
noncomputable abbrev qs(x:Str):Option D:=some (.p (.str x))
noncomputable abbrev ql(x:List P):Option D:=some (.p (.lst x))
noncomputable abbrev qt(x:List P):Option D:=some (.p (.tup x))
noncomputable abbrev qr(x:Nat):Option D:=some (.ref x)
@[simp] abbrev vv(k:Nat):EV:=vE (ej k)
@[simp] abbrev vi(i:Int):EV:=vC (.int i)
@[simp] abbrev vt(x:Str):EV:=vC (.str x)
@[simp] abbrev v1(a:EV):gc:=aH a d_
@[simp] abbrev v2(a b:EV):gc:=aH a (aH b d_)
@[simp] abbrev v3(a b c:EV):gc:=aH a (aH b (aH c d_))
@[simp] abbrev v4(a b c d:EV):gc:=aH a (aH b (aH c (aH d d_)))
@[simp] abbrev v5(a b c d e:EV):gc:=aH a (aH b (aH c (aH d (aH e d_))))
@[simp] abbrev v6(a b c d e f:EV):gc:=aH a (aH b (aH c (aH d (aH e (aH f d_)))))
@[simp] abbrev v7(a b c d e f g:EV):gc:=aH a (aH b (aH c (aH d (aH e (aH f (aH g d_))))))
@[simp] abbrev v8(a b c d e f g h:EV):gc:=aH a (aH b (aH c (aH d (aH e (aH f (aH g (aH h d_)))))))
@[simp] abbrev eD(a:EE):lr:=cg a aR
@[simp] abbrev o3(a b:EE):lr:=cg a (cg b aR)
@[simp] abbrev Ly(a b c:EE):lr:=cg a (cg b (cg c aR))
@[simp] abbrev OK(a b c d:EE):lr:=cg a (cg b (cg c (cg d aR)))
@[simp] abbrev Qo(a b c d e:EE):lr:=cg a (cg b (cg c (cg d (cg e aR))))
@[simp] abbrev Qn(a b c d e f:EE):lr:=cg a (cg b (cg c (cg d (cg e (cg f aR)))))
@[simp] abbrev Ql(k:Nat)(f:EV):ES:=aP k (U f)
@[simp] abbrev Qm(f:EV):ES:=bw (U f)
@[simp] abbrev aO(a b:EE):EB:=bV (cc BU a b)
@[simp] abbrev cf(a b:EE):EB:=bV (cc IJ a b)
@[simp] abbrev bv:EV->EV->EV:=oy sD
@[simp] abbrev z6:EV->EV->EV:=oy NP
@[simp] abbrev z5:EV->EV->EV:=oy HZ
@[simp] abbrev jV:EV->EV->EV:=oy HY
@[simp] abbrev bn:EV->EV->EV:=oy EU
@[simp] abbrev d2:EV->EV->EV:=oy jN
@[simp] abbrev ag:EV->EV->EV:=oy cM
@[simp] abbrev aY:EV->EV->EV:=oy mY
@[simp] abbrev dB:EV->EV->EV:=oy NM
@[simp] abbrev Fs:EV->EV->EV:=oy NN
@[simp] abbrev iC:EV->EV->EV:=oy L6
@[simp] abbrev e_(g:GF):gc->EV:=ck (jH g)
@[simp] abbrev cU:EV:=vE (ej 0)
@[simp] abbrev cJ:EV:=vE (ej 1)
@[simp] abbrev iY:EV:=vE (ej 3)
@[simp] abbrev uv:EV:=vE (ej 4)
@[simp] abbrev kR:EV:=vE (ej 2)
@[simp] abbrev uu:EV:=vE (ej 6)
@[simp] abbrev cm:EV:=vC (.int 1)
@[simp] abbrev iD:EV:=vC (.int 2)
@[simp] abbrev jy:EV:=vC (.int 0)
@[simp] abbrev uL:EV:=vC (.int 3)
@[simp] abbrev nu:EV:=vC (.int 4)
@[simp] abbrev iE:EE:=ej 2
@[simp] abbrev Y:EE:=ej 0
@[simp] abbrev cQ:EE:=ej 1
@[simp] abbrev q_:EE:=ej 4
@[simp] abbrev sR:EE:=ej 3
noncomputable def aD(i:Nat):Stmt:=PySem.Challenge.pw_roadsall_k03_no_sums.main.body.getD i (.Pass ⟨0,0,0,0⟩)
noncomputable def Gv(x:Str):Option P:=if x=("COMPARISONS":Str) then some (.tup [.str "=",.str "!=",.str "<",.str "<=",.str ">",.str ">="]) else if x=("FIGURES":Str) then some (.str "0123456789") else if x=("IS_LEVEL":Str) then some (.int 4) else if x=("KINDS":Str) then some (.dct [.inr "or",.inr "and",.inr "+",.inr "-",.inr "*"] [.str "or",.str "and",.str "plus",.str "minus",.str "times"]) else if x=("LETTERS":Str) then some (.str "abcdefghijklmnopqrstuvwxyz") else if x=("MARK_LEVELS":Str) then some (.dct [.inr "(",.inr "[",.inr "or",.inr "and",.inr "not",.inr "=",.inr "!=",.inr "<",.inr "<=",.inr ">",.inr ">=",.inr "+",.inr "-",.inr "*"] [.int 0,.int 0,.int 1,.int 2,.int 3,.int 4,.int 4,.int 4,.int 4,.int 4,.int 4,.int 5,.int 5,.int 6]) else if x=("MOST_FIGURES":Str) then some (.int 3) else if x=("MOST_LETTERS":Str) then some (.int 10) else if x=("OR_LEVEL":Str) then some (.int 1) else if x=("PLUS_LEVEL":Str) then some (.int 5) else if x=("SUM_KINDS":Str) then some (.tup [.str "number",.str "name",.str "plus",.str "minus",.str "times"]) else if x=("WORDS":Str) then some (.tup [.str "or",.str "and",.str "not",.str "true"]) else none
noncomputable def gM:LS:=["_law_operand","_law_part","_law_done","_law_behind","_law_refused","Reader.run_of","Reader.skip_blanks","Reader.fold","Reader.has_sum","Reader.last_mark","Reader.read_end","Reader.touches","Reader.keep","Reader.read_number","Reader.push","Reader.read_letters","Reader.read_beginning","Reader.read_sign","Reader.read_comparison","Reader.read_joint","Reader.read_round_end","Reader.read_square_end","Reader.read_behind","Reader.read","Reader.__init__"]
def ui:Df:=⟨"_law_mix","_law_mix","",(aD 29),["_law_number","_law_place","_law_turn","_law_part_here"],["_law_number","_law_place"],[],[],gM⟩
def oV:Df:=⟨"_law_level","_law_level","",(aD 37),["_law_tree"],["_law_tree"],[],[],gM⟩
def lP:Df:=⟨"_law_written","_law_written","",(aD 38),["_law_tree","_law_number","_law_found","_law_gap","_law_one","_law_other"],["_law_tree","_law_number"],[],[],gM⟩
def vr:Df:=⟨"_law_at","_law_at","",(aD 28),["_law_script","_law_k"],["_law_script","_law_k"],[],[],gM⟩
def oU:Df:=⟨"_law_named","_law_named","",(aD 32),["_law_k","_law_number","_law_place"],["_law_k","_law_number"],[],[],gM⟩
def oh:Df:=⟨"_law_folded","_law_folded","",(aD 35),["_law_stack","_law_words","_law_shorter","_law_k"],["_law_stack","_law_words"],["_law_shorter"],[],gM⟩
def su:Df:=⟨"_law_leaf","_law_leaf","",(aD 34),["_law_names","_law_number"],["_law_names","_law_number"],[],[],gM⟩
def oW:Df:=⟨"_law_depth","_law_depth","",(aD 33),["_law_tree","_law_found","_law_part_here"],["_law_tree"],[],[],gM⟩
def ug:Df:=⟨"_law_sum","_law_sum","",(aD 36),["_law_names","_law_cells","_law_most","_law_words","_law_stack","_law_many","_law_cell","_law_number","_law_other"],["_law_names","_law_cells","_law_most"],["_law_stack"],[],gM⟩
def uh:Df:=⟨"_law_run","_law_run","",(aD 39),["_law_written_here","_law_at_here","_law_end"],["_law_written_here","_law_at_here"],[],[],gM⟩
def lR:Df:=⟨"_law_operand","_law_operand","",(aD 40),["_law_written_here","_law_at_here","_law_opened","_law_end","_law_run_here"],["_law_written_here","_law_at_here","_law_opened"],["_law_opened"],[],gM⟩
def sm:Df:=⟨"_law_part","_law_part","",(aD 44),["_law_written_here","_law_at_here","_law_opened","_law_run_here"],["_law_written_here","_law_at_here","_law_opened"],["_law_opened"],[],gM⟩
def sr:Df:=⟨"_law_link","_law_link","",(aD 41),["_law_written_here","_law_at_here","_law_word","_law_sign"],["_law_written_here","_law_at_here"],[],[],gM⟩
def sv:Df:=⟨"_law_done","_law_done","",(aD 43),["_law_written_here","_law_at_here","_law_opened"],["_law_written_here","_law_at_here","_law_opened"],["_law_opened"],[],gM⟩
def oi:Df:=⟨"_law_behind","_law_behind","",(aD 42),["_law_written_here","_law_at_here","_law_opened","_law_kind","_law_sign"],["_law_written_here","_law_at_here","_law_opened","_law_kind"],["_law_opened"],[],gM⟩
def sj:Df:=⟨"_law_stop","_law_stop","",(aD 45),["_law_written_here","_law_state","_law_opened","_law_at_here","_law_wordy","_law_kind","_law_found"],["_law_written_here","_law_state"],["_law_opened"],[],gM⟩
def oR:Df:=⟨"_law_whole","_law_whole","",(aD 30),["_law_found"],["_law_found"],[],[],gM⟩
def lQ:Df:=⟨"_law_refused","_law_refused","",(aD 47),["_law_kept","_law_place"],["_law_kept","_law_place"],["_law_kept"],[],gM⟩
def kF:Df:=⟨"Reader.run_of","run_of","Reader",(L2.aa (aD 24) 13),["self","signs","end"],["self","signs"],["self"],[],gM⟩
def iu:Df:=⟨"Reader.skip_blanks","skip_blanks","Reader",(L2.aa (aD 24) 12),["self"],["self"],["self"],[],gM⟩
def lW:Df:=⟨"Reader.fold","fold","Reader",(L2.aa (aD 24) 19),["self","level","mark","other","one"],["self","level"],["self"],["self"],gM⟩
def j9:Df:=⟨"Reader.has_sum","has_sum","Reader",(L2.aa (aD 24) 15),["self"],["self"],["self"],[],gM⟩
def jf:Df:=⟨"Reader.last_mark","last_mark","Reader",(L2.aa (aD 24) 16),["self"],["self"],["self"],[],gM⟩
def jC:Df:=⟨"Reader.read_end","read_end","Reader",(L2.aa (aD 24) 11),["self"],["self"],["self"],[],gM⟩
def j8:Df:=⟨"Reader.touches","touches","Reader",(L2.aa (aD 24) 14),["self"],["self"],["self"],[],gM⟩
def lU:Df:=⟨"Reader.keep","keep","Reader",(L2.aa (aD 24) 18),["self","tree","length"],["self","tree","length"],["self"],["self"],gM⟩
def iv:Df:=⟨"Reader.read_number","read_number","Reader",(L2.aa (aD 24) 3),["self","figures","length"],["self"],["self"],[],gM⟩
def lT:Df:=⟨"Reader.push","push","Reader",(L2.aa (aD 24) 17),["self","mark","wanted"],["self","mark","wanted"],["self"],["self"],gM⟩
def g8:Df:=⟨"Reader.read_letters","read_letters","Reader",(L2.aa (aD 24) 4),["self","letters"],["self"],["self"],[],gM⟩
def gh:Df:=⟨"Reader.read_beginning","read_beginning","Reader",(L2.aa (aD 24) 2),["self","sign"],["self","sign"],["self"],[],gM⟩
def je:Df:=⟨"Reader.read_sign","read_sign","Reader",(L2.aa (aD 24) 6),["self","sign"],["self","sign"],["self"],[],gM⟩
def fV:Df:=⟨"Reader.read_comparison","read_comparison","Reader",(L2.aa (aD 24) 7),["self","sign","mark","word"],["self","sign"],["self"],[],gM⟩
def kE:Df:=⟨"shared_length","shared_length","",(aD 25),["one","other","length"],["one","other"],[],[],gM⟩
def iR:Df:=⟨"Reader.read_joint","read_joint","Reader",(L2.aa (aD 24) 8),["self","word","letters"],["self","word"],["self"],[],gM⟩
def gf:Df:=⟨"Reader.read_round_end","read_round_end","Reader",(L2.aa (aD 24) 9),["self"],["self"],["self"],["self"],gM⟩
def fU:Df:=⟨"Reader.read_square_end","read_square_end","Reader",(L2.aa (aD 24) 10),["self"],["self"],["self"],["self"],gM⟩
def iw:Df:=⟨"Reader.read_behind","read_behind","Reader",(L2.aa (aD 24) 5),["self","sign"],["self","sign"],["self"],[],gM⟩
def lS:Df:=⟨"Reader.read","read","Reader",(L2.aa (aD 24) 1),["self"],["self"],["self"],[],gM⟩
def lV:Df:=⟨"Reader.__init__","__init__","Reader",(L2.aa (aD 24) 0),["self","text","wanted"],["self","text","wanted"],["self"],[],gM⟩
def si:Df:=⟨"read_sum","read_sum","",(aD 26),["text"],["text"],[],[],gM⟩
def oS:Df:=⟨"_law_right","_law_right","",(aD 48),["_law_written_here","_law_place","_law_kept","_law_found","e"],["_law_written_here"],[],[],gM⟩
def sB:Df:=⟨"_law_bent","_law_bent","",(aD 46),["_law_written_here","_law_number","_law_cell","_law_some","_law_mark","_law_words","_law_at_here","_law_way"],["_law_written_here","_law_number","_law_cell"],[],[],gM⟩
def sC:Df:=⟨"law","law","",(aD 49),["_law_script","_law_number","_law_names","_law_written_here","_law_k","_law_bent_here"],["_law_script"],[],[],gM⟩
noncomputable def Att:At:=[("Reader",["marks","sought","spot","text","trees","wanted"])]
noncomputable def O:Ex:=[("RoadError",["RoadError","ValueError"]),("NoText",["NoText","RoadError","ValueError"]),("NoPlan",["NoPlan","RoadError","ValueError"]),("NoLine",["NoLine","RoadError","ValueError"]),("NoDeed",["NoDeed","RoadError","ValueError"]),("NotPossible",["NotPossible","RoadError","ValueError"]),("TooMany",["TooMany","RoadError","ValueError"]),("NoFact",["NoFact","RoadError","ValueError"]),("NoRow",["NoRow","RoadError","ValueError"]),("NoThing",["NoThing","RoadError","ValueError"])]
noncomputable def Rs:LS:=["NoText"]
def Tb:List Df:=[ui,oV,lP,vr,oU,oh,su,oW,ug,uh,lR,sm,sr,sv,oi,sj,oR,lQ,kF,iu,lW,j9,jf,jC,j8,lU,iv,lT,g8,gh,je,fV,kE,iR,gf,fU,iw,lS,lV,si,oS,sB,sC]
def fZ(s h:Str->GF)(k:Str->GX):ES:=(aP 0 (U (bv cU (vi 2147483648))))
def jk (s h:Str->GF) (k:Str->GX):ES:=(aj (bS (bV (z6 cU (z5 (vi 10) (vi 12)))) (aj (aP 0 (U (jV (bv cU (z5 (vi 10) (vi 12))) cm)))
  (aj (tm (vk (bn cJ (vi 61))) (g6 2) (fZ s h k))
  (bw (U (bn cU (vi 2147483648)))))) c_)
  (aj (aP 3 (U (bn (d2 (ag (ag (bn cU (vi 2147483629)) cJ) cm) (ag (d2 (d2 (vi 8) cJ) cJ) (vi 48271))) (vi 2147483647))))
  (aj (aP 3 (U (bn (d2 iY iY) (vi 2147483587))))
  (bw (U (bn (d2 iY (ag iY iD)) (vi 2147483579)))))))
theorem lB(n:Nat):aF Gv Att O Rs Tb (n+2) "_law_mix"=bR 2 4 (jk (aF Gv Att O Rs Tb (n+1)) (aF Gv Att O Rs Tb n) (cO Gv Att O Rs Tb (n+1))):=by kernel_rfl
def jP(s h:Str->GF)(k:Str->GX):ES:=(bw (U (Ai (nC (dU "plus" cm (dU "minus" cm (dU "times" iD (dU "or" cm (dU "and" iD vu)))))) (aY cU jy) uL)))
theorem oQ(n:Nat):aF Gv Att O Rs Tb (n+2) "_law_level"=bR 1 1 (jP (aF Gv Att O Rs Tb (n+1)) (aF Gv Att O Rs Tb n) (cO Gv Att O Rs Tb (n+1))):=by kernel_rfl
def cq (s h:Str->GF) (k:Str->GX):ES:=(aj (bS (aO (U (aY cU jy)) (U (vt "number"))) (aP 2 (U (ck lF (v1 (aY cU cm))))) (bS (aO (U (aY cU jy)) (U (vt "name"))) (aP 2 (U (aY cU cm))) (aj (aP 3 (U (d2 (vt " ") (aY (eT (v4 jy cm cm iD)) (bn (e_ (s "_law_mix") (v2 cJ cm)) nu)))))
  (aj (aP 4 (U (e_ (s "_law_written") (v2 (aY cU cm) (e_ (s "_law_mix") (v2 cJ iD))))))
  (aj (aP 5 (U (e_ (s "_law_written") (v2 (aY cU iD) (e_ (s "_law_mix") (v2 cJ uL))))))
  (aj (bS (bV (dB (e_ (s "_law_level") (v1 (aY cU cm))) (e_ (s "_law_level") (v1 cU)))) (aP 4 (U (ag (ag (vt "(") uv) (vt ")")))) c_)
  (aj (bS (cE (bV (Fs (e_ (s "_law_level") (v1 (aY cU iD))) (e_ (s "_law_level") (v1 cU)))) (bV (dB (e_ (s "_law_level") (v1 (aY cU iD))) uL))) (aP 5 (U (ag (ag (vt "( ") (vv 5)) (vt ")")))) c_)
  (aP 2 (U (ag (ag (ag (ag uv iY) (aY (nC (dU "plus" (vt "+") (dU "minus" (vt "-") (dU "times" (vt "*") vu)))) (aY cU jy))) iY) (vv 5)))))))))))
  (aj (bS (aO (U (bn cJ (vi 7))) (U jy)) (bw (U (ag (ag (vt "(") kR) (vt " )")))) c_)
  (bw iE)))
theorem eZ(n:Nat):aF Gv Att O Rs Tb (n+2) "_law_written"=bR 2 6 (cq (aF Gv Att O Rs Tb (n+1)) (aF Gv Att O Rs Tb n) (cO Gv Att O Rs Tb (n+1))):=by kernel_rfl
def j_ (s h:Str->GF) (k:Str->GX):ES:=(aj (bS (bV (dB cJ (bF Y))) (bw (U (aY cU cJ))) c_)
  (bw (U (ag (d2 (vi 23) cJ) (vi 6)))))
theorem oa(n:Nat):aF Gv Att O Rs Tb (n+2) "_law_at"=bR 2 2 (j_ (aF Gv Att O Rs Tb (n+1)) (aF Gv Att O Rs Tb n) (cO Gv Att O Rs Tb (n+1))):=by kernel_rfl
def gS (s h:Str->GF) (k:Str->GX):ES:=(aj (bS (aO (U (bn cJ iD)) (U jy)) (bw (U (ag (d2 (aY (vt "abcdefgh") cU) (ag cm (bn (bv cJ iD) (vi 9)))) (aY (vt "xvz") (bn (bv cJ (vi 18)) uL))))) c_)
  (aj (aP 2 (U (bn (bv cJ iD) (vi 10))))
  (bw (U (ag (ag (d2 (vt "m") kR) (aY (vt "abcdefgh") cU)) (d2 (vt "m") (jV (vi 9) kR)))))))
theorem jM(n:Nat):aF Gv Att O Rs Tb (n+2) "_law_named"=bR 2 3 (gS (aF Gv Att O Rs Tb (n+1)) (aF Gv Att O Rs Tb n) (cO Gv Att O Rs Tb (n+1))):=by kernel_rfl
def cw(s h:Str->GF)(k:Str->GX):ES:=(aQ (dN iE (U (cD (v3 (aY cJ (bn iY (bF cQ))) (aY cU iY) (aY cU (ag iY cm)))))))
def ez (s h:Str->GF) (k:Str->GX):ES:=(aj (aP 2 (kC d_))
  (aj (tm (vj jy (jV (bF Y) cm) iD) (g6 3) (cw s h k))
  (aj (bS (aO (U (bn (bF Y) iD)) (U cm)) (aQ (dN iE (U (aY cU (yH kG cm))))) c_)
  (aP 0 iE))))
def jl (s h:Str->GF) (k:Str->GX):ES:=(aj (dR 1000 (bV (iC (bF Y) cm)) (ez s h k))
  (bw (U (aY cU jy))))
theorem n9(n:Nat):aF Gv Att O Rs Tb (n+2) "_law_folded"=bR 2 4 (jl (aF Gv Att O Rs Tb (n+1)) (aF Gv Att O Rs Tb n) (cO Gv Att O Rs Tb (n+1))):=by kernel_rfl
def fB (s h:Str->GF) (k:Str->GX):ES:=(aj (bS (aO (U (bn cJ iD)) (U jy)) (bw (U (cD (v2 (vt "name") (aY cU (bn (bv cJ iD) (bF Y))))))) c_)
  (bw (U (cD (v2 (vt "number") (aY (eT (v2 (bn (bv cJ iD) (vi 10)) (bn (bv cJ (vi 20)) (vi 1000)))) (bv (bn (bv cJ (vi 16)) nu) uL)))))))
theorem iq(n:Nat):aF Gv Att O Rs Tb (n+2) "_law_leaf"=bR 2 2 (fB (aF Gv Att O Rs Tb (n+1)) (aF Gv Att O Rs Tb n) (cO Gv Att O Rs Tb (n+1))):=by kernel_rfl
def dO(s h:Str->GF)(k:Str->GX):ES:=(bS (bT (U (uR "tuple" iE))) (aP 1 (U (ck g_ (v2 cJ (e_ (s "_law_depth") (v1 kR)))))) c_)
def eR (s h:Str->GF) (k:Str->GX):ES:=(aj (aP 1 (U jy))
  (aj (tm (IG (gL cU (bI cm) dv)) (g6 2) (dO s h k))
  (bw (U (ag cm cJ)))))
theorem gQ(n:Nat):aF Gv Att O Rs Tb (n+2) "_law_depth"=bR 1 3 (eR (aF Gv Att O Rs Tb (n+1)) (aF Gv Att O Rs Tb n) (cO Gv Att O Rs Tb (n+1))):=by kernel_rfl
def bz (s h:Str->GF) (k:Str->GX):ES:=(aj (aP 7 (U (e_ (s "_law_mix") (v2 uu uL))))
  (bS (cE (bV (iC (bF q_) cm)) (cE (bV (iC (bn (vv 7) (vi 5)) cm)) (bV (dB (ck g_ (v2 (e_ (s "_law_depth") (v1 (vE (lj q_ (yH kG cm))))) (e_ (s "_law_depth") (v1 (vE (lj q_ (yH kG iD))))))) (vi 7))))) (aj (aP 8 (li q_))
  (aQ (dN q_ (U (cD (v3 (aY iY (bn (bv (vv 7) (vi 5)) uL)) (vE (li q_)) (vv 8))))))) (bS (bV (dB (vv 5) kR)) (aj (aP 5 (U (ag (vv 5) cm)))
  (aQ (dN q_ (U (e_ (s "_law_leaf") (v2 cU (bv (vv 7) (vi 16)))))))) c_)))
def lG (s h:Str->GF) (k:Str->GX):ES:=(aj (aP 3 (U (eT (v3 (vt "plus") (vt "minus") (vt "times")))))
  (aj (aP 4 (kC (v1 (e_ (s "_law_leaf") (v2 cU (e_ (s "_law_mix") (v2 (bF cQ) (vi 7))))))))
  (aj (aP 5 (U cm))
  (aj (tm (IG cJ) (g6 6) (bz s h k))
  (bw (U (e_ (s "_law_folded") (v2 uv iY))))))))
theorem uc(n:Nat):aF Gv Att O Rs Tb (n+2) "_law_sum"=bR 3 9 (lG (aF Gv Att O Rs Tb (n+1)) (aF Gv Att O Rs Tb n) (cO Gv Att O Rs Tb (n+1))):=by kernel_rfl
def fY(s h:Str->GF)(k:Str->GX):ES:=(aP 2 (U (ag kR cm)))
def lH (s h:Str->GF) (k:Str->GX):ES:=(aj (aP 2 cQ)
  (aj (dR 1000 (cE (bV (dB kR (bF Y))) (bV (cc gE (U (aY cU kR)) (U (vt "abcdefghijklmnopqrstuvwxyz"))))) (fY s h k))
  (bw (U (gL cU (bI cJ) (bI kR))))))
theorem ud(n:Nat):aF Gv Att O Rs Tb (n+2) "_law_run"=bR 2 3 (lH (aF Gv Att O Rs Tb (n+1)) (aF Gv Att O Rs Tb n) (cO Gv Att O Rs Tb (n+1))):=by kernel_rfl
def cZ(s h:Str->GF)(k:Str->GX):ES:=(aP 3 (U (ag iY cm)))
def bL (s h:Str->GF) (k:Str->GX):ES:=(aj (bS (aO (U (aY cU cJ)) (U (vt "("))) (aj (aQ (dN iE (U (vt "("))))
  (bw (U (cD (v3 (vt "operand") (ag cJ cm) (vC (.bl false))))))) c_)
  (aj (bS (bV (cc gE (U (aY cU cJ)) (U (vt "0123456789")))) (aj (aP 3 (U (ag cJ cm)))
  (aj (dR 1000 (cE (cf (U (aY cU cJ)) (U (vt "0"))) (cE (bV (dB iY (ck fX (v2 (bF Y) (ag cJ uL))))) (bV (cc gE (U (aY cU iY)) (U (vt "0123456789")))))) (cZ s h k))
  (bw (U (cD (v3 (vt "behind") iY (vC (.bl true)))))))) c_)
  (aj (aP 4 (U (e_ (s "_law_run") (v2 cU cJ))))
  (aj (bS (aO q_ (U (vt ""))) (bw (U (cD (v3 (vt "no") cJ (vC (.bl false)))))) c_)
  (aj (bS (bV (cc gE q_ (U (cD (v4 (vt "or") (vt "and") (vt "not") (vt "true")))))) (bw (U (cD (v3 (vt "no") (ag cJ (bF q_)) (vC (.bl false)))))) c_)
  (aj (bS (bV (iC (bF q_) (vi 10))) (bw (U (cD (v3 (vt "no") (ag cJ (vi 10)) (vC (.bl false)))))) c_)
  (bw (U (cD (v3 (vt "behind") (ag cJ (bF q_)) (vC (.bl true))))))))))))
theorem e6(n:Nat):aF Gv Att O Rs Tb (n+2) "_law_operand"=bR 3 5 (bL (aF Gv Att O Rs Tb (n+1)) (aF Gv Att O Rs Tb n) (cO Gv Att O Rs Tb (n+1))):=by kernel_rfl
def eA (s h:Str->GF) (k:Str->GX):ES:=(bS (cE (aO sR (U (vt "first"))) (cE (cf (U (rh iE (bI (yH kG cm)) dv)) (U (eT (v1 (vt "("))))) (bV (cc gE q_ (U (vt "=<>!")))))) (aj (bS (cE (aO (U (gL cU (bI (ag cJ cm)) (bI (ag cJ iD)))) (U (vt "="))) (cf q_ (U (vt "=")))) (bw (U (cD (v3 (vt "second") (ag cJ iD) (vC (.bl false)))))) c_)
  (bw (U (aY (eT (v2 (cD (v3 (vt "second") (ag cJ cm) (vC (.bl false)))) (cD (v3 (vt "no") (ag cJ cm) (vC (.bl false)))))) (ck eI (v1 (cc BU q_ (U (vt "!"))))))))) c_)
def dE (s h:Str->GF) (k:Str->GX):ES:=(aj (aP 4 (U (aY cU cJ)))
  (aj (bS (bV (cc gE q_ (U (vt "+-*")))) (bw (U (cD (v3 (vt "operand") (ag cJ cm) (vC (.bl false)))))) c_)
  (aj (bS (cE (aO q_ (U (vt ")"))) (aO (U (rh iE (bI (yH kG cm)) dv)) (U (eT (v1 (vt "(")))))) (aj (aQ (li iE))
  (bw (U (cD (v3 (vt "behind") (ag cJ cm) (vC (.bl false))))))) c_)
  (aj (eA s h k)
  (aj (bS (cE (aO sR (U (vt "second"))) (cf (U (rh iE (bI (yH kG cm)) dv)) (U (eT (v1 (vt "(")))))) (bw (U (ib (s "_law_done") (Ly Y cQ iE)))) c_)
  (bw (U (cD (v3 (vt "no") cJ (vC (.bl false)))))))))))
theorem n_(n:Nat):aF Gv Att O Rs Tb (n+2) "_law_behind"=bR 4 5 (dE (aF Gv Att O Rs Tb (n+1)) (aF Gv Att O Rs Tb n) (cO Gv Att O Rs Tb (n+1))):=by kernel_rfl
def am (s h:Str->GF) (k:Str->GX):ES:=(aj (bS (aO (U (aY cU iY)) (U (vt " "))) (aj (aP 4 (U (vC (.bl false))))
  (aj (aP 3 (U (ag iY cm)))
  J0)) c_)
  (aj (bS (cE (bT q_) (bV (cc gE (U (aY cU iY)) (U (vt "abcdefghijklmnopqrstuvwxyz0123456789"))))) (bw sR) c_)
  (aj (bS (aO cQ (U (vt "part"))) (aj (aP 5 (U (vt "first")))
  (aP 6 (U (ib (s "_law_part") (Ly Y sR iE))))) (bS (aO cQ (U (vt "operand"))) (aP 6 (U (ib (s "_law_operand") (Ly Y sR iE)))) (bS (aO cQ (U (vt "behind"))) (aP 6 (U (ib (s "_law_behind") (OK Y sR iE (ej 5))))) (aP 6 (U (ib (s "_law_done") (Ly Y sR iE)))))))
  (aj (Gz (yc [g6 1,g6 3,g6 4]) uu)
  (aj (bS (aO cQ (U (vt "no"))) (bw sR) c_)
  (bS (aO cQ (U (vt "second"))) (aj (aP 5 (U (vt "second")))
  (aP 1 (U (vt "operand")))) c_))))))
def kJ (s h:Str->GF) (k:Str->GX):ES:=(aj (aP 2 (kC d_))
  (aj (aP 3 (U jy))
  (aj (aP 4 (U (vC (.bl false))))
  (aj (aP 5 (U (aY (eT (v2 (vt "first") (vt "only"))) (ck eI (v1 (cc BU cQ (U (vt "operand"))))))))
  (aj (dR 1000 (bV (dB iY (bF Y))) (am s h k))
  (aj (bS (cE (aO iE (U (eT d_))) (on (aO cQ (U (vt "done"))) (cE (aO cQ (U (vt "behind"))) (cf (ej 5) (U (vt "first")))))) (bw (U (vC (.non)))) c_)
  (bw (U (bF Y)))))))))
theorem sf(n:Nat):aF Gv Att O Rs Tb (n+2) "_law_stop"=bR 2 7 (kJ (aF Gv Att O Rs Tb (n+1)) (aF Gv Att O Rs Tb n) (cO Gv Att O Rs Tb (n+1))):=by kernel_rfl
def jO(s h:Str->GF)(k:Str->GX):ES:=(bw (U (vB (cE (bV (uR "int" Y)) (kL (bV (uR "bool" Y)))))))
theorem oO(n:Nat):aF Gv Att O Rs Tb (n+2) "_law_whole"=bR 1 1 (jO (aF Gv Att O Rs Tb (n+1)) (aF Gv Att O Rs Tb n) (cO Gv Att O Rs Tb (n+1))):=by kernel_rfl
def iJ (s h:Str->GF) (k:Str->GX):ES:=(aj (bS (on (kL (bT (U (km (kM O Rs "NoText") Y)))) (kL (bT (U (km (kM O Rs "ValueError") Y))))) (bw (U (vC (.bl false)))) c_)
  (aj (bS (bT (U (km (lq O Rs ["NoDeed","NoFact","NoLine","NoPlan","NoRow","NoThing","NotPossible","TooMany"]) Y))) (bw (U (vC (.bl false)))) c_)
  (bw (U (vB (cE (bV (e_ (s "_law_whole") (v1 (vE (LU CJ Y "place"))))) (aO (LU CJ Y "place") cQ)))))))
theorem lK(n:Nat):aF Gv Att O Rs Tb (n+2) "_law_refused"=bR 2 2 (iJ (aF Gv Att O Rs Tb (n+1)) (aF Gv Att O Rs Tb n) (cO Gv Att O Rs Tb (n+1))):=by kernel_rfl
def dF(s h:Str->GF)(k:Str->GX):ES:=(AM 2 cm)
def gH (s h:Str->GF) (k:Str->GX):ES:=(aj (aP 2 (aE (aT Att) Y "spot"))
  (aj (dR 1000 (cE (bV (dB kR (bF (aE (aT Att) Y "text")))) (bV (cc gE (lj (aE (aT Att) Y "text") kR) cQ))) (dF s h k))
  (bw (U (rh (aE (aT Att) Y "text") (bI (vE (aE (aT Att) Y "spot"))) (bI kR))))))
theorem kB(n:Nat):aF Gv Att O Rs Tb (n+2) "Reader.run_of"=bR 2 3 (gH (aF Gv Att O Rs Tb (n+1)) (aF Gv Att O Rs Tb n) (cO Gv Att O Rs Tb (n+1))):=by kernel_rfl
def eB(s h:Str->GF)(k:Str->GX):ES:=(lw (aT Att) Y "spot" (bF (aB (mT Tb s) Y "run_of" (eD (U (vt " "))))))
theorem ir(n:Nat):aF Gv Att O Rs Tb (n+2) "Reader.skip_blanks"=bR 1 1 (eB (aF Gv Att O Rs Tb (n+1)) (aF Gv Att O Rs Tb n) (cO Gv Att O Rs Tb (n+1))):=by kernel_rfl
def d9 (s h:Str->GF) (k:Str->GX):ES:=(aj (aP 2 (li (aE (aT Att) Y "marks")))
  (aj (aP 3 (li (aE (aT Att) Y "trees")))
  (aj (bS (aO iE (U (vt "not"))) (aj (aQ (dN (aE (aT Att) Y "trees") (U (cD (v2 (vt "not") iY)))))
  J0) c_)
  (aj (aP 4 (li (aE (aT Att) Y "trees")))
  (bS (bV (cc gE iE (U (vC (.tup [.str "=",.str "!=",.str "<",.str "<=",.str ">",.str ">="]))))) (aQ (dN (aE (aT Att) Y "trees") (U (cD (v4 (vt "is") kR uv iY))))) (aQ (dN (aE (aT Att) Y "trees") (U (cD (v3 (oA [("or",.str "or"),("and",.str "and"),("+",.str "plus"),("-",.str "minus"),("*",.str "times")] kR) uv iY))))))))))
def iO(s h:Str->GF)(k:Str->GX):ES:=(dR 1000 (cE (bT (aE (aT Att) Y "marks")) (bV (z6 (oA [("(",.int 0),("[",.int 0),("or",.int 1),("and",.int 2),("not",.int 3),("=",.int 4),("!=",.int 4),("<",.int 4),("<=",.int 4),(">",.int 4),(">=",.int 4),("+",.int 5),("-",.int 5),("*",.int 6)] (vE (lj (aE (aT Att) Y "marks") (yH kG cm)))) cJ))) (d9 s h k))
theorem lO(n:Nat):aF Gv Att O Rs Tb (n+2) "Reader.fold"=bR 2 5 (iO (aF Gv Att O Rs Tb (n+1)) (aF Gv Att O Rs Tb n) (cO Gv Att O Rs Tb (n+1))):=by kernel_rfl
def f_(s h:Str->GF)(k:Str->GX):ES:=(bw (U (cc gE (lj (lj (aE (aT Att) Y "trees") (yH kG cm)) jy) (U (vC (.tup [.str "number",.str "name",.str "plus",.str "minus",.str "times"]))))))
theorem j7(n:Nat):aF Gv Att O Rs Tb (n+2) "Reader.has_sum"=bR 1 1 (f_ (aF Gv Att O Rs Tb (n+1)) (aF Gv Att O Rs Tb n) (cO Gv Att O Rs Tb (n+1))):=by kernel_rfl
def dI(s h:Str->GF)(k:Str->GX):ES:=(bw (U (Fw (bT (aE (aT Att) Y "marks")) (vE (lj (aE (aT Att) Y "marks") (yH kG cm))) (vt ""))))
theorem eU(n:Nat):aF Gv Att O Rs Tb (n+2) "Reader.last_mark"=bR 1 1 (dI (aF Gv Att O Rs Tb (n+1)) (aF Gv Att O Rs Tb n) (cO Gv Att O Rs Tb (n+1))):=by kernel_rfl
def dS (s h:Str->GF) (k:Str->GX):ES:=(aj (aQ (aB (mT Tb s) Y "fold" (eD (U nu))))
  (aj (bS (cE (aO (aE (aT Att) Y "sought") (U (vt "part"))) (bT (aB (mT Tb s) Y "has_sum" aR))) bj c_)
  (aj (aQ (aB (mT Tb s) Y "fold" (eD (U cm))))
  (aj (bS (cf (aB (mT Tb s) Y "last_mark" aR) (U (vt ""))) bj c_)
  (bw (lj (aE (aT Att) Y "trees") jy))))))
theorem ff(n:Nat):aF Gv Att O Rs Tb (n+2) "Reader.read_end"=bR 1 1 (dS (aF Gv Att O Rs Tb (n+1)) (aF Gv Att O Rs Tb n) (cO Gv Att O Rs Tb (n+1))):=by kernel_rfl
def eS (s h:Str->GF) (k:Str->GX):EX:=(cP (aQ (aB (mT Tb s) Y "fold" (eD (U nu)))) (be (wT Tb k) Y "fold" (eD (U nu)))
  (cP (bS (cE (aO (aE (aT Att) Y "sought") (U (vt "part"))) (bT (aB (mT Tb s) Y "has_sum" aR))) bj c_) (d8 (cE (aO (aE (aT Att) Y "sought") (U (vt "part"))) (bT (aB (mT Tb s) Y "has_sum" aR))) (b' "NoText" "place" (vE (aE (aT Att) Y "spot"))) iU)
  (cP (aQ (aB (mT Tb s) Y "fold" (eD (U cm)))) (be (wT Tb k) Y "fold" (eD (U cm)))
  (cP (bS (cf (aB (mT Tb s) Y "last_mark" aR) (U (vt ""))) bj c_) (d8 (cf (aB (mT Tb s) Y "last_mark" aR) (U (vt ""))) (b' "NoText" "place" (vE (aE (aT Att) Y "spot"))) iU)
  iU))))
theorem iZ(n:Nat):cO Gv Att O Rs Tb (n+2) "Reader.read_end"=bh Rs (fnX 1 1 (eS (aF Gv Att O Rs Tb (n+1)) (aF Gv Att O Rs Tb n) (cO Gv Att O Rs Tb (n+1)))):=by kernel_rfl
def ci(s h:Str->GF)(k:Str->GX):ES:=(bw (U (vB (cE (bV (iC (vE (aE (aT Att) Y "spot")) jy)) (bV (cc gE (lj (aE (aT Att) Y "text") (jV (vE (aE (aT Att) Y "spot")) cm)) (U (ag (vt "abcdefghijklmnopqrstuvwxyz") (vt "0123456789")))))))))
theorem fQ(n:Nat):aF Gv Att O Rs Tb (n+2) "Reader.touches"=bR 1 1 (ci (aF Gv Att O Rs Tb (n+1)) (aF Gv Att O Rs Tb n) (cO Gv Att O Rs Tb (n+1))):=by kernel_rfl
def iM (s h:Str->GF) (k:Str->GX):ES:=(aj (aQ (dN (aE (aT Att) Y "trees") cQ))
  (aj (lw (aT Att) Y "spot" kR)
  (i6 (aT Att) Y "wanted" (U (vt "")))))
theorem lM(n:Nat):aF Gv Att O Rs Tb (n+2) "Reader.keep"=bR 3 3 (iM (aF Gv Att O Rs Tb (n+1)) (aF Gv Att O Rs Tb n) (cO Gv Att O Rs Tb (n+1))):=by kernel_rfl
def bK (s h:Str->GF) (k:Str->GX):ES:=(aj (bS (bT (aB (mT Tb s) Y "touches" aR)) bj c_)
  (aj (aP 1 (aB (mT Tb s) Y "run_of" (eD (U (vt "0123456789")))))
  (aj (aP 2 (U (Fw (aO (U (aY cJ jy)) (U (vt "0"))) cm (ck fX (v2 (bF cQ) uL)))))
  (aj (bS (bV (dB kR (bF cQ))) bj c_)
  (aQ (aB (mT Tb s) Y "keep" (o3 (U (cD (v2 (vt "number") (ck eI (v1 cJ))))) iE)))))))
theorem eu(n:Nat):aF Gv Att O Rs Tb (n+2) "Reader.read_number"=bR 1 3 (bK (aF Gv Att O Rs Tb (n+1)) (aF Gv Att O Rs Tb n) (cO Gv Att O Rs Tb (n+1))):=by kernel_rfl
def cK (s h:Str->GF) (k:Str->GX):EX:=(cP (bS (bT (aB (mT Tb s) Y "touches" aR)) bj c_) (d8 (bT (aB (mT Tb s) Y "touches" aR)) (b' "NoText" "place" (vE (aE (aT Att) Y "spot"))) iU)
  (cP (aP 1 (aB (mT Tb s) Y "run_of" (eD (U (vt "0123456789"))))) iU
  (cP (aP 2 (U (Fw (aO (U (aY cJ jy)) (U (vt "0"))) cm (ck fX (v2 (bF cQ) uL))))) iU
  (cP (bS (bV (dB kR (bF cQ))) bj c_) (d8 (bV (dB kR (bF cQ))) (b' "NoText" "place" (ag (vE (aE (aT Att) Y "spot")) kR)) iU)
  (be (wT Tb k) Y "keep" (o3 (U (cD (v2 (vt "number") (ck eI (v1 cJ))))) iE))))))
theorem gX(n:Nat):cO Gv Att O Rs Tb (n+2) "Reader.read_number"=bh Rs (fnX 1 3 (cK (aF Gv Att O Rs Tb (n+1)) (aF Gv Att O Rs Tb n) (cO Gv Att O Rs Tb (n+1)))):=by kernel_rfl
def iL (s h:Str->GF) (k:Str->GX):ES:=(aj (aQ (dN (aE (aT Att) Y "marks") cQ))
  (aj (lw (aT Att) Y "spot" (bF cQ))
  (i6 (aT Att) Y "wanted" iE)))
theorem lL(n:Nat):aF Gv Att O Rs Tb (n+2) "Reader.push"=bR 3 3 (iL (aF Gv Att O Rs Tb (n+1)) (aF Gv Att O Rs Tb n) (cO Gv Att O Rs Tb (n+1))):=by kernel_rfl
def bW (s h:Str->GF) (k:Str->GX):ES:=(aj (aP 1 (aB (mT Tb s) Y "run_of" (eD (U (vt "abcdefghijklmnopqrstuvwxyz")))))
  (aj (bS (bV (iC (bF cQ) (vi 10))) bj c_)
  (bS (cE (aO cQ (U (vt "true"))) (aO (aE (aT Att) Y "wanted") (U (vt "part")))) (aQ (aB (mT Tb s) Y "keep" (o3 (U (cD (v1 (vt "true")))) (U (bF cQ))))) (bS (cE (aO cQ (U (vt "not"))) (aO (aE (aT Att) Y "wanted") (U (vt "part")))) (aQ (aB (mT Tb s) Y "push" (o3 (U (vt "not")) (U (vt "part"))))) (bS (bV (cc gE cQ (U (vC (.tup [.str "or",.str "and",.str "not",.str "true"]))))) bj (aQ (aB (mT Tb s) Y "keep" (o3 (U (cD (v2 (vt "name") cJ))) (U (bF cQ))))))))))
theorem ef(n:Nat):aF Gv Att O Rs Tb (n+2) "Reader.read_letters"=bR 1 2 (bW (aF Gv Att O Rs Tb (n+1)) (aF Gv Att O Rs Tb n) (cO Gv Att O Rs Tb (n+1))):=by kernel_rfl
def cz (s h:Str->GF) (k:Str->GX):EX:=(cP (aP 1 (aB (mT Tb s) Y "run_of" (eD (U (vt "abcdefghijklmnopqrstuvwxyz"))))) iU
  (cP (bS (bV (iC (bF cQ) (vi 10))) bj c_) (d8 (bV (iC (bF cQ) (vi 10))) (b' "NoText" "place" (ag (vE (aE (aT Att) Y "spot")) (vi 10))) iU)
  (d8 (cE (aO cQ (U (vt "true"))) (aO (aE (aT Att) Y "wanted") (U (vt "part")))) (be (wT Tb k) Y "keep" (o3 (U (cD (v1 (vt "true")))) (U (bF cQ)))) (d8 (cE (aO cQ (U (vt "not"))) (aO (aE (aT Att) Y "wanted") (U (vt "part")))) (be (wT Tb k) Y "push" (o3 (U (vt "not")) (U (vt "part")))) (d8 (bV (cc gE cQ (U (vC (.tup [.str "or",.str "and",.str "not",.str "true"]))))) (b' "NoText" "place" (ag (vE (aE (aT Att) Y "spot")) (bF cQ))) (be (wT Tb k) Y "keep" (o3 (U (cD (v2 (vt "name") cJ))) (U (bF cQ)))))))))
theorem gK(n:Nat):cO Gv Att O Rs Tb (n+2) "Reader.read_letters"=bh Rs (fnX 1 2 (cz (aF Gv Att O Rs Tb (n+1)) (aF Gv Att O Rs Tb n) (cO Gv Att O Rs Tb (n+1)))):=by kernel_rfl
def a'(s h:Str->GF)(k:Str->GX):ES:=(bS (bV (cc gE cQ (U (vt "0123456789")))) (aQ (aB (mT Tb s) Y "read_number" aR)) (bS (bV (cc gE cQ (U (vt "abcdefghijklmnopqrstuvwxyz")))) (aQ (aB (mT Tb s) Y "read_letters" aR)) (bS (aO cQ (U (vt "("))) (aQ (aB (mT Tb s) Y "push" (o3 (U (vt "(")) (U (vt "factor"))))) (bS (cE (aO cQ (U (vt "["))) (aO (aE (aT Att) Y "wanted") (U (vt "part")))) (aQ (aB (mT Tb s) Y "push" (o3 (U (vt "[")) (U (vt "part"))))) bj))))
theorem bf(n:Nat):aF Gv Att O Rs Tb (n+2) "Reader.read_beginning"=bR 2 2 (a' (aF Gv Att O Rs Tb (n+1)) (aF Gv Att O Rs Tb n) (cO Gv Att O Rs Tb (n+1))):=by kernel_rfl
def bH(s h:Str->GF)(k:Str->GX):EX:=(d8 (bV (cc gE cQ (U (vt "0123456789")))) (be (wT Tb k) Y "read_number" aR) (d8 (bV (cc gE cQ (U (vt "abcdefghijklmnopqrstuvwxyz")))) (be (wT Tb k) Y "read_letters" aR) (d8 (aO cQ (U (vt "("))) (be (wT Tb k) Y "push" (o3 (U (vt "(")) (U (vt "factor")))) (d8 (cE (aO cQ (U (vt "["))) (aO (aE (aT Att) Y "wanted") (U (vt "part")))) (be (wT Tb k) Y "push" (o3 (U (vt "[")) (U (vt "part")))) (b' "NoText" "place" (vE (aE (aT Att) Y "spot")))))))
theorem ce(n:Nat):cO Gv Att O Rs Tb (n+2) "Reader.read_beginning"=bh Rs (fnX 2 2 (bH (aF Gv Att O Rs Tb (n+1)) (aF Gv Att O Rs Tb n) (cO Gv Att O Rs Tb (n+1)))):=by kernel_rfl
def eW (s h:Str->GF) (k:Str->GX):ES:=(aj (bS (kL (bT (aB (mT Tb s) Y "has_sum" aR))) bj c_)
  (aj (aQ (aB (mT Tb s) Y "fold" (eD (U (oA [("(",.int 0),("[",.int 0),("or",.int 1),("and",.int 2),("not",.int 3),("=",.int 4),("!=",.int 4),("<",.int 4),("<=",.int 4),(">",.int 4),(">=",.int 4),("+",.int 5),("-",.int 5),("*",.int 6)] cJ)))))
  (aQ (aB (mT Tb s) Y "push" (o3 cQ (U (vt "factor")))))))
theorem jd(n:Nat):aF Gv Att O Rs Tb (n+2) "Reader.read_sign"=bR 2 2 (eW (aF Gv Att O Rs Tb (n+1)) (aF Gv Att O Rs Tb n) (cO Gv Att O Rs Tb (n+1))):=by kernel_rfl
def dH (s h:Str->GF) (k:Str->GX):ES:=(aj (aQ (aB (mT Tb s) Y "fold" (eD (U (vi 5)))))
  (aj (aP 2 (aB (mT Tb s) Y "last_mark" aR))
  (aj (bS (on (aO (aE (aT Att) Y "sought") (U (vt "factor"))) (on (kL (bT (aB (mT Tb s) Y "has_sum" aR))) (on (aO iE (U (vt "("))) (bV (cc gE iE (U (vC (.tup [.str "=",.str "!=",.str "<",.str "<=",.str ">",.str ">="])))))))) bj c_)
  (aj (aP 3 (U (rh (aE (aT Att) Y "text") (bI (vE (aE (aT Att) Y "spot"))) (bI (ag (vE (aE (aT Att) Y "spot")) iD)))))
  (aj (bS (bV (cc ip sR (U (vC (.tup [.str "=",.str "!=",.str "<",.str "<=",.str ">",.str ">="]))))) (aP 3 cQ) c_)
  (aj (bS (bV (cc ip sR (U (vC (.tup [.str "=",.str "!=",.str "<",.str "<=",.str ">",.str ">="]))))) bj c_)
  (aQ (aB (mT Tb s) Y "push" (o3 sR (U (vt "factor")))))))))))
theorem fS(n:Nat):aF Gv Att O Rs Tb (n+2) "Reader.read_comparison"=bR 2 4 (dH (aF Gv Att O Rs Tb (n+1)) (aF Gv Att O Rs Tb n) (cO Gv Att O Rs Tb (n+1))):=by kernel_rfl
def dt (s h:Str->GF) (k:Str->GX):EX:=(cP (aQ (aB (mT Tb s) Y "fold" (eD (U (vi 5))))) (be (wT Tb k) Y "fold" (eD (U (vi 5))))
  (cP (aP 2 (aB (mT Tb s) Y "last_mark" aR)) iU
  (cP (bS (on (aO (aE (aT Att) Y "sought") (U (vt "factor"))) (on (kL (bT (aB (mT Tb s) Y "has_sum" aR))) (on (aO iE (U (vt "("))) (bV (cc gE iE (U (vC (.tup [.str "=",.str "!=",.str "<",.str "<=",.str ">",.str ">="])))))))) bj c_) (d8 (on (aO (aE (aT Att) Y "sought") (U (vt "factor"))) (on (kL (bT (aB (mT Tb s) Y "has_sum" aR))) (on (aO iE (U (vt "("))) (bV (cc gE iE (U (vC (.tup [.str "=",.str "!=",.str "<",.str "<=",.str ">",.str ">="])))))))) (b' "NoText" "place" (vE (aE (aT Att) Y "spot"))) iU)
  (cP (aP 3 (U (rh (aE (aT Att) Y "text") (bI (vE (aE (aT Att) Y "spot"))) (bI (ag (vE (aE (aT Att) Y "spot")) iD))))) iU
  (cP (bS (bV (cc ip sR (U (vC (.tup [.str "=",.str "!=",.str "<",.str "<=",.str ">",.str ">="]))))) (aP 3 cQ) c_) (d8 (bV (cc ip sR (U (vC (.tup [.str "=",.str "!=",.str "<",.str "<=",.str ">",.str ">="]))))) iU iU)
  (cP (bS (bV (cc ip sR (U (vC (.tup [.str "=",.str "!=",.str "<",.str "<=",.str ">",.str ">="]))))) bj c_) (d8 (bV (cc ip sR (U (vC (.tup [.str "=",.str "!=",.str "<",.str "<=",.str ">",.str ">="]))))) (b' "NoText" "place" (ag (vE (aE (aT Att) Y "spot")) cm)) iU)
  (be (wT Tb k) Y "push" (o3 sR (U (vt "factor"))))))))))
theorem fq(n:Nat):cO Gv Att O Rs Tb (n+2) "Reader.read_comparison"=bh Rs (fnX 2 4 (dt (aF Gv Att O Rs Tb (n+1)) (aF Gv Att O Rs Tb n) (cO Gv Att O Rs Tb (n+1)))):=by kernel_rfl
def de (s h:Str->GF) (k:Str->GX):ES:=(aj (aQ (aB (mT Tb s) Y "fold" (eD (U nu))))
  (aj (bS (on (bT (aB (mT Tb s) Y "touches" aR)) (bT (aB (mT Tb s) Y "has_sum" aR))) bj c_)
  (aj (aP 2 (aB (mT Tb s) Y "run_of" (eD (U (vt "abcdefghijklmnopqrstuvwxyz")))))
  (aj (bS (cf iE cQ) bj c_)
  (aj (aQ (aB (mT Tb s) Y "fold" (eD (U (oA [("(",.int 0),("[",.int 0),("or",.int 1),("and",.int 2),("not",.int 3),("=",.int 4),("!=",.int 4),("<",.int 4),("<=",.int 4),(">",.int 4),(">=",.int 4),("+",.int 5),("-",.int 5),("*",.int 6)] cJ)))))
  (aQ (aB (mT Tb s) Y "push" (o3 cQ (U (vt "part"))))))))))
theorem iQ(n:Nat):aF Gv Att O Rs Tb (n+2) "Reader.read_joint"=bR 2 3 (de (aF Gv Att O Rs Tb (n+1)) (aF Gv Att O Rs Tb n) (cO Gv Att O Rs Tb (n+1))):=by kernel_rfl
def cV (s h:Str->GF) (k:Str->GX):EX:=(cP (aQ (aB (mT Tb s) Y "fold" (eD (U nu)))) (be (wT Tb k) Y "fold" (eD (U nu)))
  (cP (bS (on (bT (aB (mT Tb s) Y "touches" aR)) (bT (aB (mT Tb s) Y "has_sum" aR))) bj c_) (d8 (on (bT (aB (mT Tb s) Y "touches" aR)) (bT (aB (mT Tb s) Y "has_sum" aR))) (b' "NoText" "place" (vE (aE (aT Att) Y "spot"))) iU)
  (cP (aP 2 (aB (mT Tb s) Y "run_of" (eD (U (vt "abcdefghijklmnopqrstuvwxyz"))))) iU
  (cP (bS (cf iE cQ) bj c_) (d8 (cf iE cQ) (b' "NoText" "place" (ag (vE (aE (aT Att) Y "spot")) (e_ (s "shared_length") (v2 kR cJ)))) iU)
  (cP (aQ (aB (mT Tb s) Y "fold" (eD (U (oA [("(",.int 0),("[",.int 0),("or",.int 1),("and",.int 2),("not",.int 3),("=",.int 4),("!=",.int 4),("<",.int 4),("<=",.int 4),(">",.int 4),(">=",.int 4),("+",.int 5),("-",.int 5),("*",.int 6)] cJ))))) (be (wT Tb k) Y "fold" (eD (U (oA [("(",.int 0),("[",.int 0),("or",.int 1),("and",.int 2),("not",.int 3),("=",.int 4),("!=",.int 4),("<",.int 4),("<=",.int 4),(">",.int 4),(">=",.int 4),("+",.int 5),("-",.int 5),("*",.int 6)] cJ))))
  (be (wT Tb k) Y "push" (o3 cQ (U (vt "part")))))))))
theorem h_(n:Nat):cO Gv Att O Rs Tb (n+2) "Reader.read_joint"=bh Rs (fnX 2 3 (cV (aF Gv Att O Rs Tb (n+1)) (aF Gv Att O Rs Tb n) (cO Gv Att O Rs Tb (n+1)))):=by kernel_rfl
def cn (s h:Str->GF) (k:Str->GX):ES:=(aj (aQ (aB (mT Tb s) Y "fold" (eD (U (vi 5)))))
  (aj (bS (cf (aB (mT Tb s) Y "last_mark" aR) (U (vt "("))) bj c_)
  (aj (aQ (li (aE (aT Att) Y "marks")))
  (lw (aT Att) Y "spot" cm))))
theorem dP(n:Nat):aF Gv Att O Rs Tb (n+2) "Reader.read_round_end"=bR 1 1 (cn (aF Gv Att O Rs Tb (n+1)) (aF Gv Att O Rs Tb n) (cO Gv Att O Rs Tb (n+1))):=by kernel_rfl
def dC (s h:Str->GF) (k:Str->GX):EX:=(cP (aQ (aB (mT Tb s) Y "fold" (eD (U (vi 5))))) (be (wT Tb k) Y "fold" (eD (U (vi 5))))
  (cP (bS (cf (aB (mT Tb s) Y "last_mark" aR) (U (vt "("))) bj c_) (d8 (cf (aB (mT Tb s) Y "last_mark" aR) (U (vt "("))) (b' "NoText" "place" (vE (aE (aT Att) Y "spot"))) iU)
  (cP (aQ (li (aE (aT Att) Y "marks"))) (be (wT Tb k) (aE (aT Att) Y "marks") "pop" aR)
  iU)))
theorem fF(n:Nat):cO Gv Att O Rs Tb (n+2) "Reader.read_round_end"=bh Rs (fnX 1 1 (dC (aF Gv Att O Rs Tb (n+1)) (aF Gv Att O Rs Tb n) (cO Gv Att O Rs Tb (n+1)))):=by kernel_rfl
def dG (s h:Str->GF) (k:Str->GX):ES:=(aj (aQ (aB (mT Tb s) Y "fold" (eD (U nu))))
  (aj (bS (bT (aB (mT Tb s) Y "has_sum" aR)) bj c_)
  (aj (aQ (aB (mT Tb s) Y "fold" (eD (U cm))))
  (aj (bS (cf (aB (mT Tb s) Y "last_mark" aR) (U (vt "["))) bj c_)
  (aj (aQ (li (aE (aT Att) Y "marks")))
  (lw (aT Att) Y "spot" cm))))))
theorem fR(n:Nat):aF Gv Att O Rs Tb (n+2) "Reader.read_square_end"=bR 1 1 (dG (aF Gv Att O Rs Tb (n+1)) (aF Gv Att O Rs Tb n) (cO Gv Att O Rs Tb (n+1))):=by kernel_rfl
def dq (s h:Str->GF) (k:Str->GX):EX:=(cP (aQ (aB (mT Tb s) Y "fold" (eD (U nu)))) (be (wT Tb k) Y "fold" (eD (U nu)))
  (cP (bS (bT (aB (mT Tb s) Y "has_sum" aR)) bj c_) (d8 (bT (aB (mT Tb s) Y "has_sum" aR)) (b' "NoText" "place" (vE (aE (aT Att) Y "spot"))) iU)
  (cP (aQ (aB (mT Tb s) Y "fold" (eD (U cm)))) (be (wT Tb k) Y "fold" (eD (U cm)))
  (cP (bS (cf (aB (mT Tb s) Y "last_mark" aR) (U (vt "["))) bj c_) (d8 (cf (aB (mT Tb s) Y "last_mark" aR) (U (vt "["))) (b' "NoText" "place" (vE (aE (aT Att) Y "spot"))) iU)
  (cP (aQ (li (aE (aT Att) Y "marks"))) (be (wT Tb k) (aE (aT Att) Y "marks") "pop" aR)
  iU)))))
theorem fm(n:Nat):cO Gv Att O Rs Tb (n+2) "Reader.read_square_end"=bh Rs (fnX 1 1 (dq (aF Gv Att O Rs Tb (n+1)) (aF Gv Att O Rs Tb n) (cO Gv Att O Rs Tb (n+1)))):=by kernel_rfl
def aW(s h:Str->GF)(k:Str->GX):ES:=(bS (bV (cc gE cQ (U (vt "+-*")))) (aQ (aB (mT Tb s) Y "read_sign" (eD cQ))) (bS (bV (cc gE cQ (U (vt "=!<>")))) (aQ (aB (mT Tb s) Y "read_comparison" (eD cQ))) (bS (bV (cc gE cQ (U (vt "abcdefghijklmnopqrstuvwxyz")))) (aQ (aB (mT Tb s) Y "read_joint" (eD (U (Fw (aO cQ (U (vt "a"))) (vt "and") (vt "or")))))) (bS (aO cQ (U (vt ")"))) (aQ (aB (mT Tb s) Y "read_round_end" aR)) (bS (aO cQ (U (vt "]"))) (aQ (aB (mT Tb s) Y "read_square_end" aR)) bj)))))
theorem cY(n:Nat):aF Gv Att O Rs Tb (n+2) "Reader.read_behind"=bR 2 2 (aW (aF Gv Att O Rs Tb (n+1)) (aF Gv Att O Rs Tb n) (cO Gv Att O Rs Tb (n+1))):=by kernel_rfl
def bc(s h:Str->GF)(k:Str->GX):EX:=(d8 (bV (cc gE cQ (U (vt "+-*")))) (be (wT Tb k) Y "read_sign" (eD cQ)) (d8 (bV (cc gE cQ (U (vt "=!<>")))) (be (wT Tb k) Y "read_comparison" (eD cQ)) (d8 (bV (cc gE cQ (U (vt "abcdefghijklmnopqrstuvwxyz")))) (be (wT Tb k) Y "read_joint" (eD (U (Fw (aO cQ (U (vt "a"))) (vt "and") (vt "or"))))) (d8 (aO cQ (U (vt ")"))) (be (wT Tb k) Y "read_round_end" aR) (d8 (aO cQ (U (vt "]"))) (be (wT Tb k) Y "read_square_end" aR) (b' "NoText" "place" (vE (aE (aT Att) Y "spot"))))))))
theorem gY(n:Nat):cO Gv Att O Rs Tb (n+2) "Reader.read_behind"=bh Rs (fnX 2 2 (bc (aF Gv Att O Rs Tb (n+1)) (aF Gv Att O Rs Tb n) (cO Gv Att O Rs Tb (n+1)))):=by kernel_rfl
def aI (s h:Str->GF) (k:Str->GX):ES:=(aj (bS (aO (aE (aT Att) Y "spot") (U (bF (aE (aT Att) Y "text")))) bj c_)
  (aj (bS (cf (aE (aT Att) Y "wanted") (U (vt ""))) (aQ (aB (mT Tb s) Y "read_beginning" (eD (lj (aE (aT Att) Y "text") (vE (aE (aT Att) Y "spot")))))) (aQ (aB (mT Tb s) Y "read_behind" (eD (lj (aE (aT Att) Y "text") (vE (aE (aT Att) Y "spot")))))))
  (aQ (aB (mT Tb s) Y "skip_blanks" aR))))
def iK (s h:Str->GF) (k:Str->GX):ES:=(aj (aQ (aB (mT Tb s) Y "skip_blanks" aR))
  (aj (dR 1000 (on (cf (aE (aT Att) Y "wanted") (U (vt ""))) (bV (dB (vE (aE (aT Att) Y "spot")) (bF (aE (aT Att) Y "text"))))) (aI s h k))
  (bw (aB (mT Tb s) Y "read_end" aR))))
theorem e7(n:Nat):aF Gv Att O Rs Tb (n+2) "Reader.read"=bR 1 1 (iK (aF Gv Att O Rs Tb (n+1)) (aF Gv Att O Rs Tb n) (cO Gv Att O Rs Tb (n+1))):=by kernel_rfl
def jj (s h:Str->GF) (k:Str->GX):ES:=(aj (bS (aO (aE (aT Att) Y "spot") (U (bF (aE (aT Att) Y "text")))) bj c_)
  (aj (bS (cf (aE (aT Att) Y "wanted") (U (vt ""))) (aQ (aB (mT Tb s) Y "read_beginning" (eD (lj (aE (aT Att) Y "text") (vE (aE (aT Att) Y "spot")))))) (aQ (aB (mT Tb s) Y "read_behind" (eD (lj (aE (aT Att) Y "text") (vE (aE (aT Att) Y "spot")))))))
  (aQ (aB (mT Tb s) Y "skip_blanks" aR))))
def ji (s h:Str->GF) (k:Str->GX):ES:=(aj (bS (aO (aE (aT Att) Y "spot") (U (bF (aE (aT Att) Y "text")))) bj c_)
  (aj (bS (cf (aE (aT Att) Y "wanted") (U (vt ""))) (aQ (aB (mT Tb s) Y "read_beginning" (eD (lj (aE (aT Att) Y "text") (vE (aE (aT Att) Y "spot")))))) (aQ (aB (mT Tb s) Y "read_behind" (eD (lj (aE (aT Att) Y "text") (vE (aE (aT Att) Y "spot")))))))
  (aQ (aB (mT Tb s) Y "skip_blanks" aR))))
def g0 (s h:Str->GF) (k:Str->GX):EX:=(cP (aQ (aB (mT Tb s) Y "skip_blanks" aR)) (be (wT Tb k) Y "skip_blanks" aR)
  (cP (dR 1000 (on (cf (aE (aT Att) Y "wanted") (U (vt ""))) (bV (dB (vE (aE (aT Att) Y "spot")) (bF (aE (aT Att) Y "text"))))) (jj s h k)) (uM 1000 (on (cf (aE (aT Att) Y "wanted") (U (vt ""))) (bV (dB (vE (aE (aT Att) Y "spot")) (bF (aE (aT Att) Y "text"))))) (ji s h k) (cP (bS (aO (aE (aT Att) Y "spot") (U (bF (aE (aT Att) Y "text")))) bj c_) (d8 (aO (aE (aT Att) Y "spot") (U (bF (aE (aT Att) Y "text")))) (b' "NoText" "place" (vE (aE (aT Att) Y "spot"))) iU)
  (cP (bS (cf (aE (aT Att) Y "wanted") (U (vt ""))) (aQ (aB (mT Tb s) Y "read_beginning" (eD (lj (aE (aT Att) Y "text") (vE (aE (aT Att) Y "spot")))))) (aQ (aB (mT Tb s) Y "read_behind" (eD (lj (aE (aT Att) Y "text") (vE (aE (aT Att) Y "spot"))))))) (d8 (cf (aE (aT Att) Y "wanted") (U (vt ""))) (be (wT Tb k) Y "read_beginning" (eD (lj (aE (aT Att) Y "text") (vE (aE (aT Att) Y "spot"))))) (be (wT Tb k) Y "read_behind" (eD (lj (aE (aT Att) Y "text") (vE (aE (aT Att) Y "spot"))))))
  (be (wT Tb k) Y "skip_blanks" aR))))
  (be (wT Tb k) Y "read_end" aR)))
theorem gZ(n:Nat):cO Gv Att O Rs Tb (n+2) "Reader.read"=bh Rs (fnX 1 1 (g0 (aF Gv Att O Rs Tb (n+1)) (aF Gv Att O Rs Tb n) (cO Gv Att O Rs Tb (n+1)))):=by kernel_rfl
def iN (s h:Str->GF) (k:Str->GX):ES:=(aj (i6 (aT Att) Y "text" cQ)
  (aj (i6 (aT Att) Y "spot" (U jy))
  (aj (i6 (aT Att) Y "sought" iE)
  (aj (i6 (aT Att) Y "wanted" iE)
  (aj (i6 (aT Att) Y "trees" (kC d_))
  (i6 (aT Att) Y "marks" (kC d_)))))))
theorem lN(n:Nat):aF Gv Att O Rs Tb (n+2) "Reader.__init__"=bR 3 3 (iN (aF Gv Att O Rs Tb (n+1)) (aF Gv Att O Rs Tb n) (cO Gv Att O Rs Tb (n+1))):=by kernel_rfl
def iz(s h:Str->GF)(k:Str->GX):ES:=(bw (aB (mT Tb s) (ue (h "Reader.__init__") "Reader" (o3 Y (U (vt "factor")))) "read" aR))
theorem kA(n:Nat):aF Gv Att O Rs Tb (n+2) "read_sum"=bR 1 1 (iz (aF Gv Att O Rs Tb (n+1)) (aF Gv Att O Rs Tb n) (cO Gv Att O Rs Tb (n+1))):=by kernel_rfl
def jG(s h:Str->GF)(k:Str->GX):EX:=(be (wT Tb k) (ue (h "Reader.__init__") "Reader" (o3 Y (U (vt "factor")))) "read" aR)
theorem oz(n:Nat):cO Gv Att O Rs Tb (n+2) "read_sum"=bh Rs (fnX 1 1 (jG (aF Gv Att O Rs Tb (n+1)) (aF Gv Att O Rs Tb n) (cO Gv Att O Rs Tb (n+1)))):=by kernel_rfl
def gR (s h:Str->GF) (k:Str->GX):ES:=(aj (aP 1 (U (e_ (s "_law_stop") (v2 cU (vt "operand")))))
  (aj (aP 2 (U (vC (.non))))
  (aj (aP 3 (U (vC (.non))))
  (aj (u1 (aP 3 (U (e_ (s "read_sum") (v1 cU)))) (ny (k "read_sum") (eD Y)) (fun c=>Rs.contains c && (O.lookup c).any fun a=>a.contains "RoadError") 4 (aP 2 q_))
  (aj (bS (bV (cc HH cQ (U (vC (.non))))) (bw (U (vB (cE (bV (cc HH iE (U (vC (.non))))) (bV (uR "tuple" sR)))))) c_)
  (bw (U (ib (s "_law_refused") (o3 iE cQ)))))))))
theorem oP(n:Nat):aF Gv Att O Rs Tb (n+2) "_law_right"=bR 1 5 (gR (aF Gv Att O Rs Tb (n+1)) (aF Gv Att O Rs Tb n) (cO Gv Att O Rs Tb (n+1))):=by kernel_rfl
def kK (s h:Str->GF) (k:Str->GX):ES:=(aj (aP 3 (U (vt " !\"#$&'()*+,-./0123456789:;<=>?@ABCDEFGHIJKLMNOPQRSTUVWXYZ[\\]^_`")))
  (aj (aP 3 (U (ag iY (vt "abcdefghijklmnopqrstuvwxyz{|}~"))))
  (aj (aP 4 (U (aY iY (bn kR (vi 94)))))
  (aj (bS (bV (iC (bn cJ nu) jy)) (aj (aP 5 (U (eT (aH (vt "a") (aH (vt "o") (aH (vt "0") (aH (vt "9") (aH (vt "+") (aH (vt "-") (aH (vt "*") (aH (vt "(") (aH (vt ")") (aH (vt "[") (v8 (vt "]") (vt "=") (vt "<") (vt "!") (vt " ") (vt "or") (vt "not") (vt "true")))))))))))))))
  (aP 4 (U (aY (vv 5) (bn (bv cJ nu) (vi 18)))))) c_)
  (aj (aP 6 (U (bn (bv cJ (vi 128)) (ag (bF Y) cm))))
  (aj (aP 7 (U (bn (bv cJ (vi 524288)) nu)))
  (aj (bS (aO (ej 7) (U jy)) (bw (U (gL cU dv (bI uu)))) c_)
  (aj (bS (aO (ej 7) (U cm)) (bw (U (ag (ag (gL cU dv (bI uu)) uv) (gL cU (bI uu) dv)))) c_)
  (aj (bS (aO (ej 7) (U iD)) (bw (U (ag (ag (gL cU dv (bI uu)) uv) (gL cU (bI (ag uu cm)) dv)))) c_)
  (bw (U (ag (gL cU dv (bI uu)) (gL cU (bI (ag uu cm)) dv)))))))))))))
theorem sh(n:Nat):aF Gv Att O Rs Tb (n+2) "_law_bent"=bR 3 8 (kK (aF Gv Att O Rs Tb (n+1)) (aF Gv Att O Rs Tb n) (cO Gv Att O Rs Tb (n+1))):=by kernel_rfl
def j' (s h:Str->GF) (k:Str->GX):ES:=(aj (aP 5 (U (e_ (s "_law_bent") (v3 iY (e_ (s "_law_mix") (v2 (e_ (s "_law_at") (v2 cU (ag iD uv))) (vi 9))) (e_ (s "_law_at") (v2 cU (ag iD uv)))))))
  (bS (on (kL (bT (U (e_ (s "_law_right") (v1 (vv 5)))))) (kL (bT (U (e_ (s "_law_right") (v1 (vv 5))))))) (bw (U (vC (.bl false)))) c_))
def yw (s h:Str->GF) (k:Str->GX):ES:=(aj (aP 1 (U (e_ (s "_law_mix") (v2 (e_ (s "_law_at") (v2 cU jy)) cm))))
  (aj (aP 2 (U (kn (vk (ag cm (bn cJ nu))) [4] 0 (g6 4) Cs (e_ (s "_law_named") (v2 uv (bv cJ nu))))))
  (aj (aP 3 (U (e_ (s "_law_written") (v2 (e_ (s "_law_sum") (v3 kR (gL cU (bI iD) (bI (vi 42))) (vi 14))) (e_ (s "_law_mix") (v2 (e_ (s "_law_at") (v2 cU cm)) (vi 5)))))))
  (aj (bS (kL (bT (U (e_ (s "_law_right") (v1 iY))))) (bw (U (vC (.bl false)))) c_)
  (aj (tm (vk uL) (g6 4) (j' s h k))
  (bw (U (vC (.bl true)))))))))
theorem EN(n:Nat):aF Gv Att O Rs Tb (n+2) "law"=bR 1 6 (yw (aF Gv Att O Rs Tb (n+1)) (aF Gv Att O Rs Tb n) (cO Gv Att O Rs Tb (n+1))):=by kernel_rfl
variable{t:Type}{m:List t}
theorem uw(h:m.length=1):∃a,m=[a]:=by
 match m,h with
 | [a],_=>exact⟨a,rfl⟩
theorem rX(h:m.length=2):∃a b,m=[a,b]:=by
 match m,h with
 | [a,b],_=>exact⟨a,b,rfl⟩
theorem FF(h:m.length=3):∃a b c,m=[a,b,c]:=by
 match m,h with
 | [a,b,c],_=>exact⟨a,b,c,rfl⟩
theorem PL(h:m.length=4):∃a b c d,m=[a,b,c,d]:=by
 match m,h with
 | [a,b,c,d],_=>exact⟨a,b,c,d,rfl⟩
theorem sc:Tb.all LG=true:=by decide +kernel
theorem un:(Tb.map (·.name)).Nodup:=by decide +kernel
set_option tactic.hygienic true in
theorem B0(h:CJ.lookup c=some f):c=("NoText":Str)/\f=("place":Str):=by
 unfold CJ cF at h;split at h
 .rename_i e;cases h;exact⟨eq_of_beq e,rfl⟩
 .cases h
def Qh(K:FG)(C:Addr):Prop:=∃f t N o x kV d p a c h s,K.lookup C=some o/\Kx.XO o C N t /\
 uB K Kx.Er t=true/\uA K N=true/\bo K N "__init__"=some (some (.ref f))/\K.lookup f=some ⟨.type "function",x,.func (jS "__init__" "NoText.__init__" (aK (L2.aa (aD 2) 0)) (aA (L2.aa (aD 2) 0)) (ac (L2.aa (aD 2) 0)) .none kV d p a c h),s⟩/\pT K c "NoText.__init__"=true/\eY K (.ref f)=true
theorem EI(st:ExcSt K C "place")(H:Qh K C):sL K C "place":=by
 obtain⟨f,v,N,o,S,kV,y,F,g,i,j,A,b,c,r,t,p,x,a,n⟩:=H;have q:aA (L2.aa (aD 2) 0)=[.Assign [.Attribute (.Name "self" ⟨7,8,7,12⟩) "place" ⟨7,8,7,18⟩] (.Name "place" ⟨7,21,7,26⟩) ⟨7,8,7,26⟩]:=by kernel_rfl
 refine⟨st,f,_,["self","place"],⟨v,N,o,_,b,c,r,t,λh X=>Hh X p,x,rfl⟩,λP w z base=>zc (ak (st:=(L2.aa (aD 2) 0)) x a n) (AK (d:=⟨"","","",(L2.aa (aD 2) 0),["self","place"],["self","place"],[],[],[]⟩) (by decide +kernel)) q (λe k=>⟨.inl (by rw[k];decide +kernel),.inl (by rw[k];decide +kernel)⟩) (by decide +kernel) (by decide +kernel) (by decide +kernel) (by decide +kernel) λ_=>rfl,λs e u X=>?_⟩;exact(ak (st:=(L2.aa (aD 2) 0)) x a n).binds (ps:=["self","place"]) (λ_ _ _ _ _ _ m l=>by obtain⟨_,_,rfl⟩:=rX l;rfl) s [.ref e,u] X rfl
theorem HM{K:FG}{h:Heap}{mg:SV}(X:K.In h)(G:h.Ns mainGlobals mg){E0 E V W Z E5 E6 E7 E8 E9:Addr}
  (n:bo K mainGlobals "RoadError"=some (some (.ref E0))) (en0:bp K (.type "NoneType") (.ref E0)=some false)
  (s:bo K mainGlobals "NoText"=some (some (.ref E))) (en1:bp K (.type "NoneType") (.ref E)=some false)
  (k:bo K mainGlobals "NoPlan"=some (some (.ref V))) (en2:bp K (.type "NoneType") (.ref V)=some false)
  (b:bo K mainGlobals "NoLine"=some (some (.ref W))) (en3:bp K (.type "NoneType") (.ref W)=some false)
  (m:bo K mainGlobals "NoDeed"=some (some (.ref Z))) (en4:bp K (.type "NoneType") (.ref Z)=some false)
  (p:bo K mainGlobals "NotPossible"=some (some (.ref E5))) (en5:bp K (.type "NoneType") (.ref E5)=some false)
  (q:bo K mainGlobals "TooMany"=some (some (.ref E6))) (en6:bp K (.type "NoneType") (.ref E6)=some false)
  (v:bo K mainGlobals "NoFact"=some (some (.ref E7))) (en7:bp K (.type "NoneType") (.ref E7)=some false)
  (d:bo K mainGlobals "NoRow"=some (some (.ref E8))) (en8:bp K (.type "NoneType") (.ref E8)=some false)
  (w:bo K mainGlobals "NoThing"=some (some (.ref E9))) (en9:bp K (.type "NoneType") (.ref E9)=some false)
  (ev:bo K mainGlobals "ValueError"=some none) (env:bp K (.type "NoneType") (.type "ValueError")=some false)
  (L:cS K (.ref E) "__getattribute__"=some (some (.builtin "BaseException.__getattribute__"))) (M:cS K (.ref E) "__getattr__"=some none) (cQ:ng K E (.type "BaseException")=some true) (I:cS K (.ref E) "__class__"=some (some (.builtin "object.__class__"))) (D:pX K (.builtin "object.__class__") "__get__"=some (some (.builtin "getset_descriptor.__get__"))) (eD:uD K (.builtin "object.__class__")=some true) (N:ng K E (.type "object")=some true) (cm:(pR K E).isSome=true) (xs1:nh K (.ref E) (.ref E)=some true) (cJ:bp K (.ref E) (.type "ValueError")=some true)
  (xr1:sL K E "place")
  (u:bp K (.ref E) (.ref E0)=some true)
  (A:kU K (.ref E) (.ref E0)=some true)
  (g:bp K (.ref E) (.ref E)=some true)
  (B:kU K (.ref E) (.ref E)=some true)
  (i:bp K (.ref E) (.ref V)=some false)
  (j:bp K (.ref E) (.ref W)=some false)
  (l:bp K (.ref E) (.ref Z)=some false)
  (o:bp K (.ref E) (.ref E5)=some false)
  (H:bp K (.ref E) (.ref E6)=some false)
  (S:bp K (.ref E) (.ref E7)=some false)
  (F:bp K (.ref E) (.ref E8)=some false)
  (P:bp K (.ref E) (.ref E9)=some false)
  : ExsOk K mg O Rs:=by
 have y:∀c:Str,(O.any λx=>decide (x.1=c))=true->c=("RoadError":Str)\/c=("NoText":Str)\/c=("NoPlan":Str)\/c=("NoLine":Str)\/c=("NoDeed":Str)\/c=("NotPossible":Str)\/c=("TooMany":Str)\/c=("NoFact":Str)\/c=("NoRow":Str)\/c=("NoThing":Str):=λc a=>by
  simp only[O,ep,wE,qw,jp,jF]at a;rcases a with a|a|a|a|a|a|a|a|a|a
  .exact .inl a.symm
  .exact .inr (.inl a.symm)
  .exact .inr (.inr (.inl a.symm))
  .exact .inr (.inr (.inr (.inl a.symm)))
  .exact .inr (.inr (.inr (.inr (.inl a.symm))))
  .exact .inr (.inr (.inr (.inr (.inr (.inl a.symm)))))
  .exact .inr (.inr (.inr (.inr (.inr (.inr (.inl a.symm))))))
  .exact .inr (.inr (.inr (.inr (.inr (.inr (.inr (.inl a.symm)))))))
  .exact .inr (.inr (.inr (.inr (.inr (.inr (.inr (.inr (.inl a.symm))))))))
  .exact .inr (.inr (.inr (.inr (.inr (.inr (.inr (.inr (.inr (a.symm)))))))))
 have r:∀c:Str,Rs.contains c=true->c=("NoText":Str):=λc a=>by simpa[Rs] using a
 refine⟨λc a=>?_,zI X G ev,λt C ht e=>?_,env,λc anc C R ea Q=>?_,λc R=>?_,λc C R hz Q=>?_,λc f hf=>?_,λc f C hf Q=>?_⟩
 .rcases y c a with rfl|rfl|rfl|rfl|rfl|rfl|rfl|rfl|rfl|rfl
  .exact⟨_,n,aq X G n⟩
  .exact⟨_,s,aq X G s⟩
  .exact⟨_,k,aq X G k⟩
  .exact⟨_,b,aq X G b⟩
  .exact⟨_,m,aq X G m⟩
  .exact⟨_,p,aq X G p⟩
  .exact⟨_,q,aq X G q⟩
  .exact⟨_,v,aq X G v⟩
  .exact⟨_,d,aq X G d⟩
  .exact⟨_,w,aq X G w⟩
 .rcases y t ht with rfl|rfl|rfl|rfl|rfl|rfl|rfl|rfl|rfl|rfl
  .cases (aq X G n).symm.trans e;exact en0
  .cases (aq X G s).symm.trans e;exact en1
  .cases (aq X G k).symm.trans e;exact en2
  .cases (aq X G b).symm.trans e;exact en3
  .cases (aq X G m).symm.trans e;exact en4
  .cases (aq X G p).symm.trans e;exact en5
  .cases (aq X G q).symm.trans e;exact en6
  .cases (aq X G v).symm.trans e;exact en7
  .cases (aq X G d).symm.trans e;exact en8
  .cases (aq X G w).symm.trans e;exact en9
 .rcases r c R with rfl
  .cases s.symm.trans Q;cases (show some (["NoText","RoadError","ValueError"]:LS)=some anc from ea);refine⟨⟨L,M,I,D,eD,N,cQ,cm⟩,xs1,cJ,λt T ht e=>?_⟩;rcases y t ht with rfl|rfl|rfl|rfl|rfl|rfl|rfl|rfl|rfl|rfl
   .cases (aq X G n).symm.trans e;exact⟨u,λ_=>A⟩
   .cases (aq X G s).symm.trans e;exact⟨g,λ_=>B⟩
   .cases (aq X G k).symm.trans e;exact⟨i,λz=>nomatch z⟩
   .cases (aq X G b).symm.trans e;exact⟨j,λz=>nomatch z⟩
   .cases (aq X G m).symm.trans e;exact⟨l,λz=>nomatch z⟩
   .cases (aq X G p).symm.trans e;exact⟨o,λz=>nomatch z⟩
   .cases (aq X G q).symm.trans e;exact⟨H,λz=>nomatch z⟩
   .cases (aq X G v).symm.trans e;exact⟨S,λz=>nomatch z⟩
   .cases (aq X G d).symm.trans e;exact⟨F,λz=>nomatch z⟩
   .cases (aq X G w).symm.trans e;exact⟨P,λz=>nomatch z⟩
 .rcases r c R with rfl<;>decide +kernel
 .rcases r c R with rfl
  .exact absurd hz (by decide +kernel)
 .obtain⟨rfl,rfl⟩:=B0 hf;decide +kernel
 .obtain⟨rfl,rfl⟩:=B0 hf;cases s.symm.trans Q;exact⟨⟨L,M,I,D,eD,N,cQ,cm⟩,xr1⟩
open PySem.W in
theorem Iu{w:World}{K:Frag}{h:Heap}{mg:SV}(X:K.In h)(G:h.Ns mainGlobals mg)
  {C:Addr}
  {f0 f1 f2 f3 f4 f5 f6 f7 f8 f9 f10 f11 f12 f13 f14 f15 f16 f17 N Q R T V W Z f25 f26 f27 f28 f29 f30 f31 f32 f33 f34 f35 f36 f37 f38 f39 f40 f41 f42:Addr}{od0 an0 od1 NV od2 NU od3 NT od4 an4 od5 an5 od6 an6 od7 an7 od8 an8 od9 an9 od10 an10 od11 an11 od12 an12 od13 an13 od14 an14 od15 an15 od16 an16 od17 an17 od18 an18 od19 an19 od20 an20 od21 an21 od22 an22 od23 an23 od24 an24 od25 an25 od26 an26 od27 an27 od28 an28 od29 an29 od30 an30 od31 an31 od32 an32 od33 an33 od34 an34 od35 an35 od36 an36 od37 an37 od38 an38 od39 an39 od40 an40 od41 an41 od42 an42:Option Addr}{sl0 sl1 sl2 sl3 sl4 sl5 sl6 sl7 sl8 sl9 sl10 sl11 sl12 sl13 sl14 sl15 sl16 sl17 sl18 sl19 sl20 sl21 sl22 sl23 sl24 sl25 sl26 sl27 sl28 sl29 sl30 sl31 sl32 sl33 sl34 sl35 sl36 sl37 sl38 sl39 sl40 sl41 sl42:Array (OV)}{oc0 kV0 dc0 pm0 cd0 ct0 oc1 kV1 dc1 pm1 cd1 ct1 oc2 kV2 dc2 pm2 cd2 ct2 oc3 kV3 dc3 pm3 cd3 ct3 oc4 kV4 dc4 pm4 cd4 ct4 oc5 kV5 dc5 pm5 cd5 ct5 oc6 kV6 dc6 pm6 cd6 ct6 oc7 kV7 dc7 pm7 cd7 ct7 oc8 kV8 dc8 pm8 cd8 ct8 oc9 kV9 dc9 pm9 cd9 ct9 oc10 kV10 dc10 pm10 cd10 ct10 oc11 kV11 dc11 pm11 cd11 ct11 oc12 kV12 dc12 pm12 cd12 ct12 oc13 kV13 dc13 pm13 cd13 ct13 oc14 kV14 dc14 pm14 cd14 ct14 oc15 kV15 dc15 pm15 cd15 ct15 oc16 kV16 dc16 pm16 cd16 ct16 oc17 kV17 dc17 pm17 cd17 ct17 oc18 kV18 dc18 pm18 cd18 ct18 oc19 kV19 dc19 pm19 cd19 ct19 oc20 kV20 dc20 pm20 cd20 ct20 oc21 kV21 dc21 pm21 cd21 ct21 oc22 kV22 dc22 pm22 cd22 ct22 oc23 kV23 dc23 pm23 cd23 ct23 oc24 kV24 dc24 pm24 cd24 ct24 oc25 kV25 dc25 pm25 cd25 ct25 oc26 kV26 dc26 pm26 cd26 ct26 oc27 kV27 dc27 pm27 cd27 ct27 oc28 kV28 dc28 pm28 cd28 ct28 oc29 kV29 dc29 pm29 cd29 ct29 oc30 kV30 dc30 pm30 cd30 ct30 oc31 kV31 dc31 pm31 cd31 ct31 oc32 kV32 dc32 pm32 cd32 ct32 oc33 kV33 dc33 pm33 cd33 ct33 oc34 kV34 dc34 pm34 cd34 ct34 oc35 kV35 dc35 pm35 cd35 ct35 oc36 kV36 dc36 pm36 cd36 ct36 oc37 kV37 dc37 pm37 cd37 ct37 oc38 kV38 dc38 pm38 cd38 ct38 oc39 kV39 dc39 pm39 cd39 ct39 oc40 kV40 dc40 pm40 cd40 ct40 oc41 kV41 dc41 pm41 cd41 ct41 oc42 kV42 dc42 pm42 cd42 ct42:Value}
  (s:nsIn K mainGlobals "Reader"=some (some (.ref C))) (b:plainGet K C Str.empty=true) (k:hasDictIn K C=true) (n:plainOver K C=true) (r:findIn K (.ref C) "__setattr__"=some (some (.builtin "object.__setattr__"))) (cf0:makesIn K C=true) (cg0:keepIn K (.ref C)=true)
  (na0_0:findIn K (.ref C) "marks"=some none)
  (na0_1:findIn K (.ref C) "sought"=some none)
  (na0_2:findIn K (.ref C) "spot"=some none)
  (na0_3:findIn K (.ref C) "text"=some none)
  (na0_4:findIn K (.ref C) "trees"=some none)
  (na0_5:findIn K (.ref C) "wanted"=some none)
  (a0:nsIn K mainGlobals "_law_mix"=some (some (.ref f0)))
  (l0:K.lookup f0=some ⟨oc0,od0,.func (fnOf "_law_mix" "_law_mix" (aK (aD 29)) (aA (aD 29)) (ac (aD 29)) .none kV0 dc0 pm0 an0 cd0 ct0),sl0⟩) (c0:codeIn K cd0 "_law_mix"=true) (k0:keepIn K (.ref f0)=true)
  (a1:nsIn K mainGlobals "_law_level"=some (some (.ref f1)))
  (l1:K.lookup f1=some ⟨oc1,od1,.func (fnOf "_law_level" "_law_level" (aK (aD 37)) (aA (aD 37)) (ac (aD 37)) .none kV1 dc1 pm1 NV cd1 ct1),sl1⟩) (c1:codeIn K cd1 "_law_level"=true) (k1:keepIn K (.ref f1)=true)
  (a2:nsIn K mainGlobals "_law_written"=some (some (.ref f2)))
  (l2:K.lookup f2=some ⟨oc2,od2,.func (fnOf "_law_written" "_law_written" (aK (aD 38)) (aA (aD 38)) (ac (aD 38)) .none kV2 dc2 pm2 NU cd2 ct2),sl2⟩) (c2:codeIn K cd2 "_law_written"=true) (k2:keepIn K (.ref f2)=true)
  (a3:nsIn K mainGlobals "_law_at"=some (some (.ref f3)))
  (l3:K.lookup f3=some ⟨oc3,od3,.func (fnOf "_law_at" "_law_at" (aK (aD 28)) (aA (aD 28)) (ac (aD 28)) .none kV3 dc3 pm3 NT cd3 ct3),sl3⟩) (c3:codeIn K cd3 "_law_at"=true) (k3:keepIn K (.ref f3)=true)
  (a4:nsIn K mainGlobals "_law_named"=some (some (.ref f4)))
  (l4:K.lookup f4=some ⟨oc4,od4,.func (fnOf "_law_named" "_law_named" (aK (aD 32)) (aA (aD 32)) (ac (aD 32)) .none kV4 dc4 pm4 an4 cd4 ct4),sl4⟩) (c4:codeIn K cd4 "_law_named"=true) (k4:keepIn K (.ref f4)=true)
  (a5:nsIn K mainGlobals "_law_folded"=some (some (.ref f5)))
  (l5:K.lookup f5=some ⟨oc5,od5,.func (fnOf "_law_folded" "_law_folded" (aK (aD 35)) (aA (aD 35)) (ac (aD 35)) .none kV5 dc5 pm5 an5 cd5 ct5),sl5⟩) (c5:codeIn K cd5 "_law_folded"=true) (k5:keepIn K (.ref f5)=true)
  (a6:nsIn K mainGlobals "_law_leaf"=some (some (.ref f6)))
  (l6:K.lookup f6=some ⟨oc6,od6,.func (fnOf "_law_leaf" "_law_leaf" (aK (aD 34)) (aA (aD 34)) (ac (aD 34)) .none kV6 dc6 pm6 an6 cd6 ct6),sl6⟩) (c6:codeIn K cd6 "_law_leaf"=true) (k6:keepIn K (.ref f6)=true)
  (a7:nsIn K mainGlobals "_law_depth"=some (some (.ref f7)))
  (l7:K.lookup f7=some ⟨oc7,od7,.func (fnOf "_law_depth" "_law_depth" (aK (aD 33)) (aA (aD 33)) (ac (aD 33)) .none kV7 dc7 pm7 an7 cd7 ct7),sl7⟩) (c7:codeIn K cd7 "_law_depth"=true) (k7:keepIn K (.ref f7)=true)
  (a8:nsIn K mainGlobals "_law_sum"=some (some (.ref f8)))
  (l8:K.lookup f8=some ⟨oc8,od8,.func (fnOf "_law_sum" "_law_sum" (aK (aD 36)) (aA (aD 36)) (ac (aD 36)) .none kV8 dc8 pm8 an8 cd8 ct8),sl8⟩) (c8:codeIn K cd8 "_law_sum"=true) (k8:keepIn K (.ref f8)=true)
  (a9:nsIn K mainGlobals "_law_run"=some (some (.ref f9)))
  (l9:K.lookup f9=some ⟨oc9,od9,.func (fnOf "_law_run" "_law_run" (aK (aD 39)) (aA (aD 39)) (ac (aD 39)) .none kV9 dc9 pm9 an9 cd9 ct9),sl9⟩) (c9:codeIn K cd9 "_law_run"=true) (k9:keepIn K (.ref f9)=true)
  (a10:nsIn K mainGlobals "_law_operand"=some (some (.ref f10)))
  (l10:K.lookup f10=some ⟨oc10,od10,.func (fnOf "_law_operand" "_law_operand" (aK (aD 40)) (aA (aD 40)) (ac (aD 40)) .none kV10 dc10 pm10 an10 cd10 ct10),sl10⟩) (c10:codeIn K cd10 "_law_operand"=true) (k10:keepIn K (.ref f10)=true)
  (a11:nsIn K mainGlobals "_law_part"=some (some (.ref f11)))
  (l11:K.lookup f11=some ⟨oc11,od11,.func (fnOf "_law_part" "_law_part" (aK (aD 44)) (aA (aD 44)) (ac (aD 44)) .none kV11 dc11 pm11 an11 cd11 ct11),sl11⟩) (c11:codeIn K cd11 "_law_part"=true) (k11:keepIn K (.ref f11)=true)
  (a12:nsIn K mainGlobals "_law_link"=some (some (.ref f12)))
  (l12:K.lookup f12=some ⟨oc12,od12,.func (fnOf "_law_link" "_law_link" (aK (aD 41)) (aA (aD 41)) (ac (aD 41)) .none kV12 dc12 pm12 an12 cd12 ct12),sl12⟩) (c12:codeIn K cd12 "_law_link"=true) (k12:keepIn K (.ref f12)=true)
  (a13:nsIn K mainGlobals "_law_done"=some (some (.ref f13)))
  (l13:K.lookup f13=some ⟨oc13,od13,.func (fnOf "_law_done" "_law_done" (aK (aD 43)) (aA (aD 43)) (ac (aD 43)) .none kV13 dc13 pm13 an13 cd13 ct13),sl13⟩) (c13:codeIn K cd13 "_law_done"=true) (k13:keepIn K (.ref f13)=true)
  (a14:nsIn K mainGlobals "_law_behind"=some (some (.ref f14)))
  (l14:K.lookup f14=some ⟨oc14,od14,.func (fnOf "_law_behind" "_law_behind" (aK (aD 42)) (aA (aD 42)) (ac (aD 42)) .none kV14 dc14 pm14 an14 cd14 ct14),sl14⟩) (c14:codeIn K cd14 "_law_behind"=true) (k14:keepIn K (.ref f14)=true)
  (a15:nsIn K mainGlobals "_law_stop"=some (some (.ref f15)))
  (l15:K.lookup f15=some ⟨oc15,od15,.func (fnOf "_law_stop" "_law_stop" (aK (aD 45)) (aA (aD 45)) (ac (aD 45)) .none kV15 dc15 pm15 an15 cd15 ct15),sl15⟩) (c15:codeIn K cd15 "_law_stop"=true) (k15:keepIn K (.ref f15)=true)
  (a16:nsIn K mainGlobals "_law_whole"=some (some (.ref f16)))
  (l16:K.lookup f16=some ⟨oc16,od16,.func (fnOf "_law_whole" "_law_whole" (aK (aD 30)) (aA (aD 30)) (ac (aD 30)) .none kV16 dc16 pm16 an16 cd16 ct16),sl16⟩) (c16:codeIn K cd16 "_law_whole"=true) (k16:keepIn K (.ref f16)=true)
  (a17:nsIn K mainGlobals "_law_refused"=some (some (.ref f17)))
  (l17:K.lookup f17=some ⟨oc17,od17,.func (fnOf "_law_refused" "_law_refused" (aK (aD 47)) (aA (aD 47)) (ac (aD 47)) .none kV17 dc17 pm17 an17 cd17 ct17),sl17⟩) (c17:codeIn K cd17 "_law_refused"=true) (k17:keepIn K (.ref f17)=true)
  (a18:findIn K (.ref C) "run_of"=some (some (.ref N))) (w18:isFn K (.ref N)=true)
  (l18:K.lookup N=some ⟨oc18,od18,.func (fnOf "run_of" "Reader.run_of" (aK (L2.aa (aD 24) 13)) (aA (L2.aa (aD 24) 13)) (ac (L2.aa (aD 24) 13)) .none kV18 dc18 pm18 an18 cd18 ct18),sl18⟩) (c18:codeIn K cd18 "Reader.run_of"=true) (k18:keepIn K (.ref N)=true)
  (a19:findIn K (.ref C) "skip_blanks"=some (some (.ref Q))) (w19:isFn K (.ref Q)=true)
  (l19:K.lookup Q=some ⟨oc19,od19,.func (fnOf "skip_blanks" "Reader.skip_blanks" (aK (L2.aa (aD 24) 12)) (aA (L2.aa (aD 24) 12)) (ac (L2.aa (aD 24) 12)) .none kV19 dc19 pm19 an19 cd19 ct19),sl19⟩) (c19:codeIn K cd19 "Reader.skip_blanks"=true) (k19:keepIn K (.ref Q)=true)
  (a20:findIn K (.ref C) "fold"=some (some (.ref R))) (w20:isFn K (.ref R)=true)
  (l20:K.lookup R=some ⟨oc20,od20,.func (fnOf "fold" "Reader.fold" (aK (L2.aa (aD 24) 19)) (aA (L2.aa (aD 24) 19)) (ac (L2.aa (aD 24) 19)) .none kV20 dc20 pm20 an20 cd20 ct20),sl20⟩) (c20:codeIn K cd20 "Reader.fold"=true) (k20:keepIn K (.ref R)=true)
  (a21:findIn K (.ref C) "has_sum"=some (some (.ref T))) (w21:isFn K (.ref T)=true)
  (l21:K.lookup T=some ⟨oc21,od21,.func (fnOf "has_sum" "Reader.has_sum" (aK (L2.aa (aD 24) 15)) (aA (L2.aa (aD 24) 15)) (ac (L2.aa (aD 24) 15)) .none kV21 dc21 pm21 an21 cd21 ct21),sl21⟩) (c21:codeIn K cd21 "Reader.has_sum"=true) (k21:keepIn K (.ref T)=true)
  (a22:findIn K (.ref C) "last_mark"=some (some (.ref V))) (w22:isFn K (.ref V)=true)
  (l22:K.lookup V=some ⟨oc22,od22,.func (fnOf "last_mark" "Reader.last_mark" (aK (L2.aa (aD 24) 16)) (aA (L2.aa (aD 24) 16)) (ac (L2.aa (aD 24) 16)) .none kV22 dc22 pm22 an22 cd22 ct22),sl22⟩) (c22:codeIn K cd22 "Reader.last_mark"=true) (k22:keepIn K (.ref V)=true)
  (a23:findIn K (.ref C) "read_end"=some (some (.ref W))) (w23:isFn K (.ref W)=true)
  (l23:K.lookup W=some ⟨oc23,od23,.func (fnOf "read_end" "Reader.read_end" (aK (L2.aa (aD 24) 11)) (aA (L2.aa (aD 24) 11)) (ac (L2.aa (aD 24) 11)) .none kV23 dc23 pm23 an23 cd23 ct23),sl23⟩) (c23:codeIn K cd23 "Reader.read_end"=true) (k23:keepIn K (.ref W)=true)
  (a24:findIn K (.ref C) "touches"=some (some (.ref Z))) (w24:isFn K (.ref Z)=true)
  (l24:K.lookup Z=some ⟨oc24,od24,.func (fnOf "touches" "Reader.touches" (aK (L2.aa (aD 24) 14)) (aA (L2.aa (aD 24) 14)) (ac (L2.aa (aD 24) 14)) .none kV24 dc24 pm24 an24 cd24 ct24),sl24⟩) (c24:codeIn K cd24 "Reader.touches"=true) (k24:keepIn K (.ref Z)=true)
  (a25:findIn K (.ref C) "keep"=some (some (.ref f25))) (w25:isFn K (.ref f25)=true)
  (l25:K.lookup f25=some ⟨oc25,od25,.func (fnOf "keep" "Reader.keep" (aK (L2.aa (aD 24) 18)) (aA (L2.aa (aD 24) 18)) (ac (L2.aa (aD 24) 18)) .none kV25 dc25 pm25 an25 cd25 ct25),sl25⟩) (c25:codeIn K cd25 "Reader.keep"=true) (k25:keepIn K (.ref f25)=true)
  (a26:findIn K (.ref C) "read_number"=some (some (.ref f26))) (w26:isFn K (.ref f26)=true)
  (l26:K.lookup f26=some ⟨oc26,od26,.func (fnOf "read_number" "Reader.read_number" (aK (L2.aa (aD 24) 3)) (aA (L2.aa (aD 24) 3)) (ac (L2.aa (aD 24) 3)) .none kV26 dc26 pm26 an26 cd26 ct26),sl26⟩) (c26:codeIn K cd26 "Reader.read_number"=true) (k26:keepIn K (.ref f26)=true)
  (a27:findIn K (.ref C) "push"=some (some (.ref f27))) (w27:isFn K (.ref f27)=true)
  (l27:K.lookup f27=some ⟨oc27,od27,.func (fnOf "push" "Reader.push" (aK (L2.aa (aD 24) 17)) (aA (L2.aa (aD 24) 17)) (ac (L2.aa (aD 24) 17)) .none kV27 dc27 pm27 an27 cd27 ct27),sl27⟩) (c27:codeIn K cd27 "Reader.push"=true) (k27:keepIn K (.ref f27)=true)
  (a28:findIn K (.ref C) "read_letters"=some (some (.ref f28))) (w28:isFn K (.ref f28)=true)
  (l28:K.lookup f28=some ⟨oc28,od28,.func (fnOf "read_letters" "Reader.read_letters" (aK (L2.aa (aD 24) 4)) (aA (L2.aa (aD 24) 4)) (ac (L2.aa (aD 24) 4)) .none kV28 dc28 pm28 an28 cd28 ct28),sl28⟩) (c28:codeIn K cd28 "Reader.read_letters"=true) (k28:keepIn K (.ref f28)=true)
  (a29:findIn K (.ref C) "read_beginning"=some (some (.ref f29))) (w29:isFn K (.ref f29)=true)
  (l29:K.lookup f29=some ⟨oc29,od29,.func (fnOf "read_beginning" "Reader.read_beginning" (aK (L2.aa (aD 24) 2)) (aA (L2.aa (aD 24) 2)) (ac (L2.aa (aD 24) 2)) .none kV29 dc29 pm29 an29 cd29 ct29),sl29⟩) (c29:codeIn K cd29 "Reader.read_beginning"=true) (k29:keepIn K (.ref f29)=true)
  (a30:findIn K (.ref C) "read_sign"=some (some (.ref f30))) (w30:isFn K (.ref f30)=true)
  (l30:K.lookup f30=some ⟨oc30,od30,.func (fnOf "read_sign" "Reader.read_sign" (aK (L2.aa (aD 24) 6)) (aA (L2.aa (aD 24) 6)) (ac (L2.aa (aD 24) 6)) .none kV30 dc30 pm30 an30 cd30 ct30),sl30⟩) (c30:codeIn K cd30 "Reader.read_sign"=true) (k30:keepIn K (.ref f30)=true)
  (a31:findIn K (.ref C) "read_comparison"=some (some (.ref f31))) (w31:isFn K (.ref f31)=true)
  (l31:K.lookup f31=some ⟨oc31,od31,.func (fnOf "read_comparison" "Reader.read_comparison" (aK (L2.aa (aD 24) 7)) (aA (L2.aa (aD 24) 7)) (ac (L2.aa (aD 24) 7)) .none kV31 dc31 pm31 an31 cd31 ct31),sl31⟩) (c31:codeIn K cd31 "Reader.read_comparison"=true) (k31:keepIn K (.ref f31)=true)
  (a32:nsIn K mainGlobals "shared_length"=some (some (.ref f32)))
  (l32:K.lookup f32=some ⟨oc32,od32,.func (fnOf "shared_length" "shared_length" (aK (aD 25)) (aA (aD 25)) (ac (aD 25)) .none kV32 dc32 pm32 an32 cd32 ct32),sl32⟩) (c32:codeIn K cd32 "shared_length"=true) (k32:keepIn K (.ref f32)=true)
  (a33:findIn K (.ref C) "read_joint"=some (some (.ref f33))) (w33:isFn K (.ref f33)=true)
  (l33:K.lookup f33=some ⟨oc33,od33,.func (fnOf "read_joint" "Reader.read_joint" (aK (L2.aa (aD 24) 8)) (aA (L2.aa (aD 24) 8)) (ac (L2.aa (aD 24) 8)) .none kV33 dc33 pm33 an33 cd33 ct33),sl33⟩) (c33:codeIn K cd33 "Reader.read_joint"=true) (k33:keepIn K (.ref f33)=true)
  (a34:findIn K (.ref C) "read_round_end"=some (some (.ref f34))) (w34:isFn K (.ref f34)=true)
  (l34:K.lookup f34=some ⟨oc34,od34,.func (fnOf "read_round_end" "Reader.read_round_end" (aK (L2.aa (aD 24) 9)) (aA (L2.aa (aD 24) 9)) (ac (L2.aa (aD 24) 9)) .none kV34 dc34 pm34 an34 cd34 ct34),sl34⟩) (c34:codeIn K cd34 "Reader.read_round_end"=true) (k34:keepIn K (.ref f34)=true)
  (a35:findIn K (.ref C) "read_square_end"=some (some (.ref f35))) (w35:isFn K (.ref f35)=true)
  (l35:K.lookup f35=some ⟨oc35,od35,.func (fnOf "read_square_end" "Reader.read_square_end" (aK (L2.aa (aD 24) 10)) (aA (L2.aa (aD 24) 10)) (ac (L2.aa (aD 24) 10)) .none kV35 dc35 pm35 an35 cd35 ct35),sl35⟩) (c35:codeIn K cd35 "Reader.read_square_end"=true) (k35:keepIn K (.ref f35)=true)
  (a36:findIn K (.ref C) "read_behind"=some (some (.ref f36))) (w36:isFn K (.ref f36)=true)
  (l36:K.lookup f36=some ⟨oc36,od36,.func (fnOf "read_behind" "Reader.read_behind" (aK (L2.aa (aD 24) 5)) (aA (L2.aa (aD 24) 5)) (ac (L2.aa (aD 24) 5)) .none kV36 dc36 pm36 an36 cd36 ct36),sl36⟩) (c36:codeIn K cd36 "Reader.read_behind"=true) (k36:keepIn K (.ref f36)=true)
  (a37:findIn K (.ref C) "read"=some (some (.ref f37))) (w37:isFn K (.ref f37)=true)
  (l37:K.lookup f37=some ⟨oc37,od37,.func (fnOf "read" "Reader.read" (aK (L2.aa (aD 24) 1)) (aA (L2.aa (aD 24) 1)) (ac (L2.aa (aD 24) 1)) .none kV37 dc37 pm37 an37 cd37 ct37),sl37⟩) (c37:codeIn K cd37 "Reader.read"=true) (k37:keepIn K (.ref f37)=true)
  (a38:findIn K (.ref C) "__init__"=some (some (.ref f38))) (w38:isFn K (.ref f38)=true)
  (l38:K.lookup f38=some ⟨oc38,od38,.func (fnOf "__init__" "Reader.__init__" (aK (L2.aa (aD 24) 0)) (aA (L2.aa (aD 24) 0)) (ac (L2.aa (aD 24) 0)) .none kV38 dc38 pm38 an38 cd38 ct38),sl38⟩) (c38:codeIn K cd38 "Reader.__init__"=true) (k38:keepIn K (.ref f38)=true)
  (a39:nsIn K mainGlobals "read_sum"=some (some (.ref f39)))
  (l39:K.lookup f39=some ⟨oc39,od39,.func (fnOf "read_sum" "read_sum" (aK (aD 26)) (aA (aD 26)) (ac (aD 26)) .none kV39 dc39 pm39 an39 cd39 ct39),sl39⟩) (c39:codeIn K cd39 "read_sum"=true) (k39:keepIn K (.ref f39)=true)
  (a40:nsIn K mainGlobals "_law_right"=some (some (.ref f40)))
  (l40:K.lookup f40=some ⟨oc40,od40,.func (fnOf "_law_right" "_law_right" (aK (aD 48)) (aA (aD 48)) (ac (aD 48)) .none kV40 dc40 pm40 an40 cd40 ct40),sl40⟩) (c40:codeIn K cd40 "_law_right"=true) (k40:keepIn K (.ref f40)=true)
  (a41:nsIn K mainGlobals "_law_bent"=some (some (.ref f41)))
  (l41:K.lookup f41=some ⟨oc41,od41,.func (fnOf "_law_bent" "_law_bent" (aK (aD 46)) (aA (aD 46)) (ac (aD 46)) .none kV41 dc41 pm41 an41 cd41 ct41),sl41⟩) (c41:codeIn K cd41 "_law_bent"=true) (k41:keepIn K (.ref f41)=true)
  (a42:nsIn K mainGlobals "law"=some (some (.ref f42)))
  (l42:K.lookup f42=some ⟨oc42,od42,.func (fnOf "law" "law" (aK (aD 49)) (aA (aD 49)) (ac (aD 49)) .none kV42 dc42 pm42 an42 cd42 ct42),sl42⟩) (c42:codeIn K cd42 "law"=true) (k42:keepIn K (.ref f42)=true)
  {ga0:Addr}{gn0:Nat}{gs0:Array (OV)}{gt0_0 gt0_1 gt0_2 gt0_3 gt0_4 gt0_5:Tok} (glb0:nsIn K mainGlobals "COMPARISONS"=some (some (.ref ga0))) (glt0:K.lookup ga0=some ⟨.type "tuple",none,.seq #[.str "=" gt0_0,.str "!=" gt0_1,.str "<" gt0_2,.str "<=" gt0_3,.str ">" gt0_4,.str ">=" gt0_5] gn0,gs0⟩)
  {gt1:Tok} (glb1:nsIn K mainGlobals "FIGURES"=some (some (.str "0123456789" gt1)))
  {gt2:Tok} (glb2:nsIn K mainGlobals "IS_LEVEL"=some (some (.int 4 gt2)))
  {ga3:Addr}{gn3:Nat}{i j y o H:Int}{gt3_0 gu3_0 gt3_1 gu3_1 gt3_2 gu3_2 gt3_3 gu3_3 gt3_4 gu3_4:Tok} (glb3:nsIn K mainGlobals "KINDS"=some (some (.ref ga3))) (glt3:K.lookup ga3=some ⟨.type "dict",none,.dict #[⟨i,.str "or" gt3_0,.str "or" gu3_0⟩,⟨j,.str "and" gt3_1,.str "and" gu3_1⟩,⟨y,.str "+" gt3_2,.str "plus" gu3_2⟩,⟨o,.str "-" gt3_3,.str "minus" gu3_3⟩,⟨H,.str "*" gt3_4,.str "times" gu3_4⟩] gn3,#[]⟩)
  (gq3_0:i=hashStr w "or")
  (gq3_1:j=hashStr w "and")
  (gq3_2:y=hashStr w "+")
  (gq3_3:o=hashStr w "-")
  (gq3_4:H=hashStr w "*")
  {gt4:Tok} (glb4:nsIn K mainGlobals "LETTERS"=some (some (.str "abcdefghijklmnopqrstuvwxyz" gt4)))
  {ga5:Addr}{gn5:Nat}{S F P A B D E I L M g p q u:Int}{gt5_0 gu5_0 gt5_1 gu5_1 gt5_2 gu5_2 gt5_3 gu5_3 gt5_4 gu5_4 gt5_5 gu5_5 gt5_6 gu5_6 gt5_7 gu5_7 gt5_8 gu5_8 gt5_9 gu5_9 gt5_10 gu5_10 gt5_11 gu5_11 gt5_12 gu5_12 gt5_13 gu5_13:Tok} (glb5:nsIn K mainGlobals "MARK_LEVELS"=some (some (.ref ga5))) (glt5:K.lookup ga5=some ⟨.type "dict",none,.dict #[⟨S,.str "(" gt5_0,.int 0 gu5_0⟩,⟨F,.str "[" gt5_1,.int 0 gu5_1⟩,⟨P,.str "or" gt5_2,.int 1 gu5_2⟩,⟨A,.str "and" gt5_3,.int 2 gu5_3⟩,⟨B,.str "not" gt5_4,.int 3 gu5_4⟩,⟨D,.str "=" gt5_5,.int 4 gu5_5⟩,⟨E,.str "!=" gt5_6,.int 4 gu5_6⟩,⟨I,.str "<" gt5_7,.int 4 gu5_7⟩,⟨L,.str "<=" gt5_8,.int 4 gu5_8⟩,⟨M,.str ">" gt5_9,.int 4 gu5_9⟩,⟨g,.str ">=" gt5_10,.int 4 gu5_10⟩,⟨p,.str "+" gt5_11,.int 5 gu5_11⟩,⟨q,.str "-" gt5_12,.int 5 gu5_12⟩,⟨u,.str "*" gt5_13,.int 6 gu5_13⟩] gn5,#[]⟩)
  (gq5_0:S=hashStr w "(")
  (gq5_1:F=hashStr w "[")
  (gq5_2:P=hashStr w "or")
  (gq5_3:A=hashStr w "and")
  (gq5_4:B=hashStr w "not")
  (gq5_5:D=hashStr w "=")
  (gq5_6:E=hashStr w "!=")
  (gq5_7:I=hashStr w "<")
  (gq5_8:L=hashStr w "<=")
  (gq5_9:M=hashStr w ">")
  (gq5_10:g=hashStr w ">=")
  (gq5_11:p=hashStr w "+")
  (gq5_12:q=hashStr w "-")
  (gq5_13:u=hashStr w "*")
  {gt6:Tok} (glb6:nsIn K mainGlobals "MOST_FIGURES"=some (some (.int 3 gt6)))
  {gt7:Tok} (glb7:nsIn K mainGlobals "MOST_LETTERS"=some (some (.int 10 gt7)))
  {gt8:Tok} (glb8:nsIn K mainGlobals "OR_LEVEL"=some (some (.int 1 gt8)))
  {gt9:Tok} (glb9:nsIn K mainGlobals "PLUS_LEVEL"=some (some (.int 5 gt9)))
  {ga10:Addr}{gn10:Nat}{gs10:Array (OV)}{gt10_0 gt10_1 gt10_2 gt10_3 gt10_4:Tok} (glb10:nsIn K mainGlobals "SUM_KINDS"=some (some (.ref ga10))) (glt10:K.lookup ga10=some ⟨.type "tuple",none,.seq #[.str "number" gt10_0,.str "name" gt10_1,.str "plus" gt10_2,.str "minus" gt10_3,.str "times" gt10_4] gn10,gs10⟩)
  {ga11:Addr}{gn11:Nat}{gs11:Array (OV)}{gt11_0 gt11_1 gt11_2 gt11_3:Tok} (glb11:nsIn K mainGlobals "WORDS"=some (some (.ref ga11))) (glt11:K.lookup ga11=some ⟨.type "tuple",none,.seq #[.str "or" gt11_0,.str "and" gt11_1,.str "not" gt11_2,.str "true" gt11_3] gn11,gs11⟩)
  (z:∀x ∈ Fg,nsIn K mainGlobals x=some none)
  (hex:ExsOk K mg O Rs)
  : TOk w Gv Att O Rs Tb K mg:=by
 refine⟨hex,λd a=>?_,sc,un,λx hx=>zI X G (z x hx),λx v t=>?_,λc f hc=>?_⟩
 .rcases av.mp a with a|a
  .subst a;exact⟨_,_,⟨ak (st:=(aD 29)) l0 c0 k0,(ak (st:=(aD 29)) l0 c0 k0).binds (ps:=["_law_number","_law_place"]) λ_ _ _ _ _ _ m l=>by obtain⟨_,_,rfl⟩:=rX l;rfl,λ_=>aq X G a0,λh=>absurd h (by decide +kernel)⟩⟩
  rcases av.mp a with a|a
  .subst a;exact⟨_,_,⟨ak (st:=(aD 37)) l1 c1 k1,(ak (st:=(aD 37)) l1 c1 k1).binds (ps:=["_law_tree"]) λ_ _ _ _ _ _ m l=>by obtain⟨_,rfl⟩:=uw l;rfl,λ_=>aq X G a1,λh=>absurd h (by decide +kernel)⟩⟩
  rcases av.mp a with a|a
  .subst a;exact⟨_,_,⟨ak (st:=(aD 38)) l2 c2 k2,(ak (st:=(aD 38)) l2 c2 k2).binds (ps:=["_law_tree","_law_number"]) λ_ _ _ _ _ _ m l=>by obtain⟨_,_,rfl⟩:=rX l;rfl,λ_=>aq X G a2,λh=>absurd h (by decide +kernel)⟩⟩
  rcases av.mp a with a|a
  .subst a;exact⟨_,_,⟨ak (st:=(aD 28)) l3 c3 k3,(ak (st:=(aD 28)) l3 c3 k3).binds (ps:=["_law_script","_law_k"]) λ_ _ _ _ _ _ m l=>by obtain⟨_,_,rfl⟩:=rX l;rfl,λ_=>aq X G a3,λh=>absurd h (by decide +kernel)⟩⟩
  rcases av.mp a with a|a
  .subst a;exact⟨_,_,⟨ak (st:=(aD 32)) l4 c4 k4,(ak (st:=(aD 32)) l4 c4 k4).binds (ps:=["_law_k","_law_number"]) λ_ _ _ _ _ _ m l=>by obtain⟨_,_,rfl⟩:=rX l;rfl,λ_=>aq X G a4,λh=>absurd h (by decide +kernel)⟩⟩
  rcases av.mp a with a|a
  .subst a;exact⟨_,_,⟨ak (st:=(aD 35)) l5 c5 k5,(ak (st:=(aD 35)) l5 c5 k5).binds (ps:=["_law_stack","_law_words"]) λ_ _ _ _ _ _ m l=>by obtain⟨_,_,rfl⟩:=rX l;rfl,λ_=>aq X G a5,λh=>absurd h (by decide +kernel)⟩⟩
  rcases av.mp a with a|a
  .subst a;exact⟨_,_,⟨ak (st:=(aD 34)) l6 c6 k6,(ak (st:=(aD 34)) l6 c6 k6).binds (ps:=["_law_names","_law_number"]) λ_ _ _ _ _ _ m l=>by obtain⟨_,_,rfl⟩:=rX l;rfl,λ_=>aq X G a6,λh=>absurd h (by decide +kernel)⟩⟩
  rcases av.mp a with a|a
  .subst a;exact⟨_,_,⟨ak (st:=(aD 33)) l7 c7 k7,(ak (st:=(aD 33)) l7 c7 k7).binds (ps:=["_law_tree"]) λ_ _ _ _ _ _ m l=>by obtain⟨_,rfl⟩:=uw l;rfl,λ_=>aq X G a7,λh=>absurd h (by decide +kernel)⟩⟩
  rcases av.mp a with a|a
  .subst a;exact⟨_,_,⟨ak (st:=(aD 36)) l8 c8 k8,(ak (st:=(aD 36)) l8 c8 k8).binds (ps:=["_law_names","_law_cells","_law_most"]) λ_ _ _ _ _ _ m l=>by obtain⟨_,_,_,rfl⟩:=FF l;rfl,λ_=>aq X G a8,λh=>absurd h (by decide +kernel)⟩⟩
  rcases av.mp a with a|a
  .subst a;exact⟨_,_,⟨ak (st:=(aD 39)) l9 c9 k9,(ak (st:=(aD 39)) l9 c9 k9).binds (ps:=["_law_written_here","_law_at_here"]) λ_ _ _ _ _ _ m l=>by obtain⟨_,_,rfl⟩:=rX l;rfl,λ_=>aq X G a9,λh=>absurd h (by decide +kernel)⟩⟩
  rcases av.mp a with a|a
  .subst a;exact⟨_,_,⟨ak (st:=(aD 40)) l10 c10 k10,(ak (st:=(aD 40)) l10 c10 k10).binds (ps:=["_law_written_here","_law_at_here","_law_opened"]) λ_ _ _ _ _ _ m l=>by obtain⟨_,_,_,rfl⟩:=FF l;rfl,λ_=>aq X G a10,λh=>absurd h (by decide +kernel)⟩⟩
  rcases av.mp a with a|a
  .subst a;exact⟨_,_,⟨ak (st:=(aD 44)) l11 c11 k11,(ak (st:=(aD 44)) l11 c11 k11).binds (ps:=["_law_written_here","_law_at_here","_law_opened"]) λ_ _ _ _ _ _ m l=>by obtain⟨_,_,_,rfl⟩:=FF l;rfl,λ_=>aq X G a11,λh=>absurd h (by decide +kernel)⟩⟩
  rcases av.mp a with a|a
  .subst a;exact⟨_,_,⟨ak (st:=(aD 41)) l12 c12 k12,(ak (st:=(aD 41)) l12 c12 k12).binds (ps:=["_law_written_here","_law_at_here"]) λ_ _ _ _ _ _ m l=>by obtain⟨_,_,rfl⟩:=rX l;rfl,λ_=>aq X G a12,λh=>absurd h (by decide +kernel)⟩⟩
  rcases av.mp a with a|a
  .subst a;exact⟨_,_,⟨ak (st:=(aD 43)) l13 c13 k13,(ak (st:=(aD 43)) l13 c13 k13).binds (ps:=["_law_written_here","_law_at_here","_law_opened"]) λ_ _ _ _ _ _ m l=>by obtain⟨_,_,_,rfl⟩:=FF l;rfl,λ_=>aq X G a13,λh=>absurd h (by decide +kernel)⟩⟩
  rcases av.mp a with a|a
  .subst a;exact⟨_,_,⟨ak (st:=(aD 42)) l14 c14 k14,(ak (st:=(aD 42)) l14 c14 k14).binds (ps:=["_law_written_here","_law_at_here","_law_opened","_law_kind"]) λ_ _ _ _ _ _ m l=>by obtain⟨_,_,_,_,rfl⟩:=PL l;rfl,λ_=>aq X G a14,λh=>absurd h (by decide +kernel)⟩⟩
  rcases av.mp a with a|a
  .subst a;exact⟨_,_,⟨ak (st:=(aD 45)) l15 c15 k15,(ak (st:=(aD 45)) l15 c15 k15).binds (ps:=["_law_written_here","_law_state"]) λ_ _ _ _ _ _ m l=>by obtain⟨_,_,rfl⟩:=rX l;rfl,λ_=>aq X G a15,λh=>absurd h (by decide +kernel)⟩⟩
  rcases av.mp a with a|a
  .subst a;exact⟨_,_,⟨ak (st:=(aD 30)) l16 c16 k16,(ak (st:=(aD 30)) l16 c16 k16).binds (ps:=["_law_found"]) λ_ _ _ _ _ _ m l=>by obtain⟨_,rfl⟩:=uw l;rfl,λ_=>aq X G a16,λh=>absurd h (by decide +kernel)⟩⟩
  rcases av.mp a with a|a
  .subst a;exact⟨_,_,⟨ak (st:=(aD 47)) l17 c17 k17,(ak (st:=(aD 47)) l17 c17 k17).binds (ps:=["_law_kept","_law_place"]) λ_ _ _ _ _ _ m l=>by obtain⟨_,_,rfl⟩:=rX l;rfl,λ_=>aq X G a17,λh=>absurd h (by decide +kernel)⟩⟩
  rcases av.mp a with a|a
  .subst a;exact⟨_,_,⟨ak (st:=(L2.aa (aD 24) 13)) l18 c18 k18,(ak (st:=(L2.aa (aD 24) 13)) l18 c18 k18).binds (ps:=["self","signs"]) λ_ _ _ _ _ _ m l=>by obtain⟨_,_,rfl⟩:=rX l;rfl,λh=>absurd h (by decide +kernel),λ_=>⟨_,s,aq X G s,⟨b,k,n,r⟩,λh=>absurd h (by decide +kernel),λ_=>⟨a18,w18,k18⟩⟩⟩⟩
  rcases av.mp a with a|a
  .subst a;exact⟨_,_,⟨ak (st:=(L2.aa (aD 24) 12)) l19 c19 k19,(ak (st:=(L2.aa (aD 24) 12)) l19 c19 k19).binds (ps:=["self"]) λ_ _ _ _ _ _ m l=>by obtain⟨_,rfl⟩:=uw l;rfl,λh=>absurd h (by decide +kernel),λ_=>⟨_,s,aq X G s,⟨b,k,n,r⟩,λh=>absurd h (by decide +kernel),λ_=>⟨a19,w19,k19⟩⟩⟩⟩
  rcases av.mp a with a|a
  .subst a;exact⟨_,_,⟨ak (st:=(L2.aa (aD 24) 19)) l20 c20 k20,(ak (st:=(L2.aa (aD 24) 19)) l20 c20 k20).binds (ps:=["self","level"]) λ_ _ _ _ _ _ m l=>by obtain⟨_,_,rfl⟩:=rX l;rfl,λh=>absurd h (by decide +kernel),λ_=>⟨_,s,aq X G s,⟨b,k,n,r⟩,λh=>absurd h (by decide +kernel),λ_=>⟨a20,w20,k20⟩⟩⟩⟩
  rcases av.mp a with a|a
  .subst a;exact⟨_,_,⟨ak (st:=(L2.aa (aD 24) 15)) l21 c21 k21,(ak (st:=(L2.aa (aD 24) 15)) l21 c21 k21).binds (ps:=["self"]) λ_ _ _ _ _ _ m l=>by obtain⟨_,rfl⟩:=uw l;rfl,λh=>absurd h (by decide +kernel),λ_=>⟨_,s,aq X G s,⟨b,k,n,r⟩,λh=>absurd h (by decide +kernel),λ_=>⟨a21,w21,k21⟩⟩⟩⟩
  rcases av.mp a with a|a
  .subst a;exact⟨_,_,⟨ak (st:=(L2.aa (aD 24) 16)) l22 c22 k22,(ak (st:=(L2.aa (aD 24) 16)) l22 c22 k22).binds (ps:=["self"]) λ_ _ _ _ _ _ m l=>by obtain⟨_,rfl⟩:=uw l;rfl,λh=>absurd h (by decide +kernel),λ_=>⟨_,s,aq X G s,⟨b,k,n,r⟩,λh=>absurd h (by decide +kernel),λ_=>⟨a22,w22,k22⟩⟩⟩⟩
  rcases av.mp a with a|a
  .subst a;exact⟨_,_,⟨ak (st:=(L2.aa (aD 24) 11)) l23 c23 k23,(ak (st:=(L2.aa (aD 24) 11)) l23 c23 k23).binds (ps:=["self"]) λ_ _ _ _ _ _ m l=>by obtain⟨_,rfl⟩:=uw l;rfl,λh=>absurd h (by decide +kernel),λ_=>⟨_,s,aq X G s,⟨b,k,n,r⟩,λh=>absurd h (by decide +kernel),λ_=>⟨a23,w23,k23⟩⟩⟩⟩
  rcases av.mp a with a|a
  .subst a;exact⟨_,_,⟨ak (st:=(L2.aa (aD 24) 14)) l24 c24 k24,(ak (st:=(L2.aa (aD 24) 14)) l24 c24 k24).binds (ps:=["self"]) λ_ _ _ _ _ _ m l=>by obtain⟨_,rfl⟩:=uw l;rfl,λh=>absurd h (by decide +kernel),λ_=>⟨_,s,aq X G s,⟨b,k,n,r⟩,λh=>absurd h (by decide +kernel),λ_=>⟨a24,w24,k24⟩⟩⟩⟩
  rcases av.mp a with a|a
  .subst a;exact⟨_,_,⟨ak (st:=(L2.aa (aD 24) 18)) l25 c25 k25,(ak (st:=(L2.aa (aD 24) 18)) l25 c25 k25).binds (ps:=["self","tree","length"]) λ_ _ _ _ _ _ m l=>by obtain⟨_,_,_,rfl⟩:=FF l;rfl,λh=>absurd h (by decide +kernel),λ_=>⟨_,s,aq X G s,⟨b,k,n,r⟩,λh=>absurd h (by decide +kernel),λ_=>⟨a25,w25,k25⟩⟩⟩⟩
  rcases av.mp a with a|a
  .subst a;exact⟨_,_,⟨ak (st:=(L2.aa (aD 24) 3)) l26 c26 k26,(ak (st:=(L2.aa (aD 24) 3)) l26 c26 k26).binds (ps:=["self"]) λ_ _ _ _ _ _ m l=>by obtain⟨_,rfl⟩:=uw l;rfl,λh=>absurd h (by decide +kernel),λ_=>⟨_,s,aq X G s,⟨b,k,n,r⟩,λh=>absurd h (by decide +kernel),λ_=>⟨a26,w26,k26⟩⟩⟩⟩
  rcases av.mp a with a|a
  .subst a;exact⟨_,_,⟨ak (st:=(L2.aa (aD 24) 17)) l27 c27 k27,(ak (st:=(L2.aa (aD 24) 17)) l27 c27 k27).binds (ps:=["self","mark","wanted"]) λ_ _ _ _ _ _ m l=>by obtain⟨_,_,_,rfl⟩:=FF l;rfl,λh=>absurd h (by decide +kernel),λ_=>⟨_,s,aq X G s,⟨b,k,n,r⟩,λh=>absurd h (by decide +kernel),λ_=>⟨a27,w27,k27⟩⟩⟩⟩
  rcases av.mp a with a|a
  .subst a;exact⟨_,_,⟨ak (st:=(L2.aa (aD 24) 4)) l28 c28 k28,(ak (st:=(L2.aa (aD 24) 4)) l28 c28 k28).binds (ps:=["self"]) λ_ _ _ _ _ _ m l=>by obtain⟨_,rfl⟩:=uw l;rfl,λh=>absurd h (by decide +kernel),λ_=>⟨_,s,aq X G s,⟨b,k,n,r⟩,λh=>absurd h (by decide +kernel),λ_=>⟨a28,w28,k28⟩⟩⟩⟩
  rcases av.mp a with a|a
  .subst a;exact⟨_,_,⟨ak (st:=(L2.aa (aD 24) 2)) l29 c29 k29,(ak (st:=(L2.aa (aD 24) 2)) l29 c29 k29).binds (ps:=["self","sign"]) λ_ _ _ _ _ _ m l=>by obtain⟨_,_,rfl⟩:=rX l;rfl,λh=>absurd h (by decide +kernel),λ_=>⟨_,s,aq X G s,⟨b,k,n,r⟩,λh=>absurd h (by decide +kernel),λ_=>⟨a29,w29,k29⟩⟩⟩⟩
  rcases av.mp a with a|a
  .subst a;exact⟨_,_,⟨ak (st:=(L2.aa (aD 24) 6)) l30 c30 k30,(ak (st:=(L2.aa (aD 24) 6)) l30 c30 k30).binds (ps:=["self","sign"]) λ_ _ _ _ _ _ m l=>by obtain⟨_,_,rfl⟩:=rX l;rfl,λh=>absurd h (by decide +kernel),λ_=>⟨_,s,aq X G s,⟨b,k,n,r⟩,λh=>absurd h (by decide +kernel),λ_=>⟨a30,w30,k30⟩⟩⟩⟩
  rcases av.mp a with a|a
  .subst a;exact⟨_,_,⟨ak (st:=(L2.aa (aD 24) 7)) l31 c31 k31,(ak (st:=(L2.aa (aD 24) 7)) l31 c31 k31).binds (ps:=["self","sign"]) λ_ _ _ _ _ _ m l=>by obtain⟨_,_,rfl⟩:=rX l;rfl,λh=>absurd h (by decide +kernel),λ_=>⟨_,s,aq X G s,⟨b,k,n,r⟩,λh=>absurd h (by decide +kernel),λ_=>⟨a31,w31,k31⟩⟩⟩⟩
  rcases av.mp a with a|a
  .subst a;exact⟨_,_,⟨ak (st:=(aD 25)) l32 c32 k32,(ak (st:=(aD 25)) l32 c32 k32).binds (ps:=["one","other"]) λ_ _ _ _ _ _ m l=>by obtain⟨_,_,rfl⟩:=rX l;rfl,λ_=>aq X G a32,λh=>absurd h (by decide +kernel)⟩⟩
  rcases av.mp a with a|a
  .subst a;exact⟨_,_,⟨ak (st:=(L2.aa (aD 24) 8)) l33 c33 k33,(ak (st:=(L2.aa (aD 24) 8)) l33 c33 k33).binds (ps:=["self","word"]) λ_ _ _ _ _ _ m l=>by obtain⟨_,_,rfl⟩:=rX l;rfl,λh=>absurd h (by decide +kernel),λ_=>⟨_,s,aq X G s,⟨b,k,n,r⟩,λh=>absurd h (by decide +kernel),λ_=>⟨a33,w33,k33⟩⟩⟩⟩
  rcases av.mp a with a|a
  .subst a;exact⟨_,_,⟨ak (st:=(L2.aa (aD 24) 9)) l34 c34 k34,(ak (st:=(L2.aa (aD 24) 9)) l34 c34 k34).binds (ps:=["self"]) λ_ _ _ _ _ _ m l=>by obtain⟨_,rfl⟩:=uw l;rfl,λh=>absurd h (by decide +kernel),λ_=>⟨_,s,aq X G s,⟨b,k,n,r⟩,λh=>absurd h (by decide +kernel),λ_=>⟨a34,w34,k34⟩⟩⟩⟩
  rcases av.mp a with a|a
  .subst a;exact⟨_,_,⟨ak (st:=(L2.aa (aD 24) 10)) l35 c35 k35,(ak (st:=(L2.aa (aD 24) 10)) l35 c35 k35).binds (ps:=["self"]) λ_ _ _ _ _ _ m l=>by obtain⟨_,rfl⟩:=uw l;rfl,λh=>absurd h (by decide +kernel),λ_=>⟨_,s,aq X G s,⟨b,k,n,r⟩,λh=>absurd h (by decide +kernel),λ_=>⟨a35,w35,k35⟩⟩⟩⟩
  rcases av.mp a with a|a
  .subst a;exact⟨_,_,⟨ak (st:=(L2.aa (aD 24) 5)) l36 c36 k36,(ak (st:=(L2.aa (aD 24) 5)) l36 c36 k36).binds (ps:=["self","sign"]) λ_ _ _ _ _ _ m l=>by obtain⟨_,_,rfl⟩:=rX l;rfl,λh=>absurd h (by decide +kernel),λ_=>⟨_,s,aq X G s,⟨b,k,n,r⟩,λh=>absurd h (by decide +kernel),λ_=>⟨a36,w36,k36⟩⟩⟩⟩
  rcases av.mp a with a|a
  .subst a;exact⟨_,_,⟨ak (st:=(L2.aa (aD 24) 1)) l37 c37 k37,(ak (st:=(L2.aa (aD 24) 1)) l37 c37 k37).binds (ps:=["self"]) λ_ _ _ _ _ _ m l=>by obtain⟨_,rfl⟩:=uw l;rfl,λh=>absurd h (by decide +kernel),λ_=>⟨_,s,aq X G s,⟨b,k,n,r⟩,λh=>absurd h (by decide +kernel),λ_=>⟨a37,w37,k37⟩⟩⟩⟩
  rcases av.mp a with a|a
  .subst a;exact⟨_,_,⟨ak (st:=(L2.aa (aD 24) 0)) l38 c38 k38,(ak (st:=(L2.aa (aD 24) 0)) l38 c38 k38).binds (ps:=["self","text","wanted"]) λ_ _ _ _ _ _ m l=>by obtain⟨_,_,_,rfl⟩:=FF l;rfl,λh=>absurd h (by decide +kernel),λ_=>⟨_,s,aq X G s,⟨b,k,n,r⟩,λ_=>⟨cf0,a38,w38,cg0⟩,λh=>absurd rfl h⟩⟩⟩
  rcases av.mp a with a|a
  .subst a;exact⟨_,_,⟨ak (st:=(aD 26)) l39 c39 k39,(ak (st:=(aD 26)) l39 c39 k39).binds (ps:=["text"]) λ_ _ _ _ _ _ m l=>by obtain⟨_,rfl⟩:=uw l;rfl,λ_=>aq X G a39,λh=>absurd h (by decide +kernel)⟩⟩
  rcases av.mp a with a|a
  .subst a;exact⟨_,_,⟨ak (st:=(aD 48)) l40 c40 k40,(ak (st:=(aD 48)) l40 c40 k40).binds (ps:=["_law_written_here"]) λ_ _ _ _ _ _ m l=>by obtain⟨_,rfl⟩:=uw l;rfl,λ_=>aq X G a40,λh=>absurd h (by decide +kernel)⟩⟩
  rcases av.mp a with a|a
  .subst a;exact⟨_,_,⟨ak (st:=(aD 46)) l41 c41 k41,(ak (st:=(aD 46)) l41 c41 k41).binds (ps:=["_law_written_here","_law_number","_law_cell"]) λ_ _ _ _ _ _ m l=>by obtain⟨_,_,_,rfl⟩:=FF l;rfl,λ_=>aq X G a41,λh=>absurd h (by decide +kernel)⟩⟩
  rcases av.mp a with a|a
  .subst a;exact⟨_,_,⟨ak (st:=(aD 49)) l42 c42 k42,(ak (st:=(aD 49)) l42 c42 k42).binds (ps:=["_law_script"]) λ_ _ _ _ _ _ m l=>by obtain⟨_,rfl⟩:=uw l;rfl,λ_=>aq X G a42,λh=>absurd h (by decide +kernel)⟩⟩
  cases a
 .unfold Gv at t;by_cases e:x=("COMPARISONS":Str)
  .rw [ai e]at t;subst e;cases t;exact .plain (lh ["=","!=","<","<=",">",">="] (aq X G glb0) glt0 (by show 6≤sizeLine;decide) (.cons ⟨_,rfl⟩ (.cons ⟨_,rfl⟩ (.cons ⟨_,rfl⟩ (.cons ⟨_,rfl⟩ (.cons ⟨_,rfl⟩ (.cons ⟨_,rfl⟩ (.nil)))))))) rfl
  rw[ar e]at t;clear e;by_cases e:x=("FIGURES":Str)
  .rw [ai e]at t;subst e;cases t;exact .plain ⟨_,.str "0123456789",aq X G glb1,by first|exact rfl|exact⟨_,rfl⟩,λ_ _=>rfl⟩ rfl
  rw[ar e]at t;clear e;by_cases e:x=("IS_LEVEL":Str)
  .rw [ai e]at t;subst e;cases t;exact .plain ⟨_,.int 4,aq X G glb2,by first|exact rfl|exact⟨_,rfl⟩,λ_ _=>rfl⟩ rfl
  rw[ar e]at t;clear e;by_cases e:x=("KINDS":Str)
  .rw [ai e]at t;subst e;cases t;exact gI.tab rfl ⟨_,_,_,_,aq X G glb3,glt3,⟨rfl,rfl,rfl⟩,rfl,⟨⟨_,rfl⟩,gq3_0,⟨.str "or",⟨_,rfl⟩,λ_ _ _=>rfl⟩,⟨⟨_,rfl⟩,gq3_1,⟨.str "and",⟨_,rfl⟩,λ_ _ _=>rfl⟩,⟨⟨_,rfl⟩,gq3_2,⟨.str "plus",⟨_,rfl⟩,λ_ _ _=>rfl⟩,⟨⟨_,rfl⟩,gq3_3,⟨.str "minus",⟨_,rfl⟩,λ_ _ _=>rfl⟩,⟨⟨_,rfl⟩,gq3_4,⟨.str "times",⟨_,rfl⟩,λ_ _ _=>rfl⟩,trivial⟩⟩⟩⟩⟩,by decide +kernel⟩
  rw[ar e]at t;clear e;by_cases e:x=("LETTERS":Str)
  .rw [ai e]at t;subst e;cases t;exact .plain ⟨_,.str "abcdefghijklmnopqrstuvwxyz",aq X G glb4,by first|exact rfl|exact⟨_,rfl⟩,λ_ _=>rfl⟩ rfl
  rw[ar e]at t;clear e;by_cases e:x=("MARK_LEVELS":Str)
  .rw [ai e]at t;subst e;cases t;exact gI.tab rfl ⟨_,_,_,_,aq X G glb5,glt5,⟨rfl,rfl,rfl⟩,rfl,⟨⟨_,rfl⟩,gq5_0,⟨.int 0,⟨_,rfl⟩,λ_ _ _=>rfl⟩,⟨⟨_,rfl⟩,gq5_1,⟨.int 0,⟨_,rfl⟩,λ_ _ _=>rfl⟩,⟨⟨_,rfl⟩,gq5_2,⟨.int 1,⟨_,rfl⟩,λ_ _ _=>rfl⟩,⟨⟨_,rfl⟩,gq5_3,⟨.int 2,⟨_,rfl⟩,λ_ _ _=>rfl⟩,⟨⟨_,rfl⟩,gq5_4,⟨.int 3,⟨_,rfl⟩,λ_ _ _=>rfl⟩,⟨⟨_,rfl⟩,gq5_5,⟨.int 4,⟨_,rfl⟩,λ_ _ _=>rfl⟩,⟨⟨_,rfl⟩,gq5_6,⟨.int 4,⟨_,rfl⟩,λ_ _ _=>rfl⟩,⟨⟨_,rfl⟩,gq5_7,⟨.int 4,⟨_,rfl⟩,λ_ _ _=>rfl⟩,⟨⟨_,rfl⟩,gq5_8,⟨.int 4,⟨_,rfl⟩,λ_ _ _=>rfl⟩,⟨⟨_,rfl⟩,gq5_9,⟨.int 4,⟨_,rfl⟩,λ_ _ _=>rfl⟩,⟨⟨_,rfl⟩,gq5_10,⟨.int 4,⟨_,rfl⟩,λ_ _ _=>rfl⟩,⟨⟨_,rfl⟩,gq5_11,⟨.int 5,⟨_,rfl⟩,λ_ _ _=>rfl⟩,⟨⟨_,rfl⟩,gq5_12,⟨.int 5,⟨_,rfl⟩,λ_ _ _=>rfl⟩,⟨⟨_,rfl⟩,gq5_13,⟨.int 6,⟨_,rfl⟩,λ_ _ _=>rfl⟩,trivial⟩⟩⟩⟩⟩⟩⟩⟩⟩⟩⟩⟩⟩⟩,by decide +kernel⟩
  rw[ar e]at t;clear e;by_cases e:x=("MOST_FIGURES":Str)
  .rw [ai e]at t;subst e;cases t;exact .plain ⟨_,.int 3,aq X G glb6,by first|exact rfl|exact⟨_,rfl⟩,λ_ _=>rfl⟩ rfl
  rw[ar e]at t;clear e;by_cases e:x=("MOST_LETTERS":Str)
  .rw [ai e]at t;subst e;cases t;exact .plain ⟨_,.int 10,aq X G glb7,by first|exact rfl|exact⟨_,rfl⟩,λ_ _=>rfl⟩ rfl
  rw[ar e]at t;clear e;by_cases e:x=("OR_LEVEL":Str)
  .rw [ai e]at t;subst e;cases t;exact .plain ⟨_,.int 1,aq X G glb8,by first|exact rfl|exact⟨_,rfl⟩,λ_ _=>rfl⟩ rfl
  rw[ar e]at t;clear e;by_cases e:x=("PLUS_LEVEL":Str)
  .rw [ai e]at t;subst e;cases t;exact .plain ⟨_,.int 5,aq X G glb9,by first|exact rfl|exact⟨_,rfl⟩,λ_ _=>rfl⟩ rfl
  rw[ar e]at t;clear e;by_cases e:x=("SUM_KINDS":Str)
  .rw [ai e]at t;subst e;cases t;exact .plain (lh ["number","name","plus","minus","times"] (aq X G glb10) glt10 (by show 5≤sizeLine;decide) (.cons ⟨_,rfl⟩ (.cons ⟨_,rfl⟩ (.cons ⟨_,rfl⟩ (.cons ⟨_,rfl⟩ (.cons ⟨_,rfl⟩ (.nil))))))) rfl
  rw[ar e]at t;clear e;by_cases e:x=("WORDS":Str)
  .rw [ai e]at t;subst e;cases t;exact .plain (lh ["or","and","not","true"] (aq X G glb11) glt11 (by show 4≤sizeLine;decide) (.cons ⟨_,rfl⟩ (.cons ⟨_,rfl⟩ (.cons ⟨_,rfl⟩ (.cons ⟨_,rfl⟩ (.nil)))))) rfl
  rw[ar e]at t;clear e;cases t
 .obtain⟨x,hx,e⟩:=mE.mp hc;rw[aC]at e;have e1:=bq e.1;have e2:f ∈ x.2:=by simpa using e.2
  subst e1;rcases av.mp hx with hx|hx
  .subst hx;simp only[av,List.not_mem_nil,or_false]at e2;rcases e2 with rfl|rfl|rfl|rfl|rfl|rfl
   .exact⟨_,s,⟨b,k,n,r⟩,na0_0⟩
   .exact⟨_,s,⟨b,k,n,r⟩,na0_1⟩
   .exact⟨_,s,⟨b,k,n,r⟩,na0_2⟩
   .exact⟨_,s,⟨b,k,n,r⟩,na0_3⟩
   .exact⟨_,s,⟨b,k,n,r⟩,na0_4⟩
   .exact⟨_,s,⟨b,k,n,r⟩,na0_5⟩
  cases hx
noncomputable def aG(u:List Nat):Str:=⟨u.toArray⟩
noncomputable def RK:LS:=["text","spot","sought","wanted","trees","marks"]
def St(g:Str)(u:List Nat)(i:Nat)(w:Str)(p:List P)(q:LS):aL:=
 [.ins "Reader" RK [.p (.str (aG u)),.p (.int (i:Int)),.p (.str g),.p (.str w),.ref 1,.ref 2],.lst (p.map .p),.lst (q.map λm=>.p (.str m))]
section
variable(a b c d e f:D)(y:D)(s:Str->GF)(k:Str->GX)
@[simp] theorem Q8:gB "text" RK [a,b,c,d,e,f]=some a:=by kernel_rfl
@[simp] theorem PQ:gB "spot" RK [a,b,c,d,e,f]=some b:=by kernel_rfl
@[simp] theorem Q7:gB "sought" RK [a,b,c,d,e,f]=some c:=by kernel_rfl
@[simp] theorem Q6:gB "wanted" RK [a,b,c,d,e,f]=some d:=by kernel_rfl
@[simp] theorem Q5:gB "trees" RK [a,b,c,d,e,f]=some e:=by kernel_rfl
@[simp] theorem Q4:gB "marks" RK [a,b,c,d,e,f]=some f:=by kernel_rfl
@[simp] theorem QS:putK "spot" RK=RK:=by kernel_rfl
@[simp] theorem QR:putK "wanted" RK=RK:=by kernel_rfl
@[simp] theorem QU:oH "spot" y RK [a,b,c,d,e,f]=[a,y,c,d,e,f]:=by kernel_rfl
@[simp] theorem QT:oH "wanted" y RK [a,b,c,d,e,f]=[a,b,c,y,e,f]:=by kernel_rfl
@[simp] theorem QH:RK.length=6:=rfl
@[simp] theorem Lm:aT Att "Reader" "text"=true:=by kernel_rfl
@[simp] theorem Rc:aT Att "Reader" "spot"=true:=by kernel_rfl
@[simp] theorem Rb:aT Att "Reader" "sought"=true:=by kernel_rfl
@[simp] theorem Ra:aT Att "Reader" "wanted"=true:=by kernel_rfl
@[simp] theorem Q':aT Att "Reader" "trees"=true:=by kernel_rfl
@[simp] theorem Q_:aT Att "Reader" "marks"=true:=by kernel_rfl
@[simp] theorem Q3:mT Tb s "Reader" "run_of"=some (s "Reader.run_of"):=by kernel_rfl
@[simp] theorem Q2:mT Tb s "Reader" "skip_blanks"=some (s "Reader.skip_blanks"):=by kernel_rfl
@[simp] theorem Q1:mT Tb s "Reader" "fold"=some (s "Reader.fold"):=by kernel_rfl
@[simp] theorem Q0:mT Tb s "Reader" "has_sum"=some (s "Reader.has_sum"):=by kernel_rfl
@[simp] theorem QZ:mT Tb s "Reader" "last_mark"=some (s "Reader.last_mark"):=by kernel_rfl
@[simp] theorem QY:mT Tb s "Reader" "read_end"=some (s "Reader.read_end"):=by kernel_rfl
@[simp] theorem QX:mT Tb s "Reader" "touches"=some (s "Reader.touches"):=by kernel_rfl
@[simp] theorem QW:mT Tb s "Reader" "keep"=some (s "Reader.keep"):=by kernel_rfl
@[simp] theorem QV:mT Tb s "Reader" "read_number"=some (s "Reader.read_number"):=by kernel_rfl
@[simp] theorem PJ:mT Tb s "Reader" "push"=some (s "Reader.push"):=by kernel_rfl
@[simp] theorem PH:mT Tb s "Reader" "read_letters"=some (s "Reader.read_letters"):=by kernel_rfl
@[simp] theorem PF:mT Tb s "Reader" "read_beginning"=some (s "Reader.read_beginning"):=by kernel_rfl
@[simp] theorem PD:mT Tb s "Reader" "read_sign"=some (s "Reader.read_sign"):=by kernel_rfl
@[simp] theorem PC:mT Tb s "Reader" "read_round_end"=some (s "Reader.read_round_end"):=by kernel_rfl
@[simp] theorem PB:mT Tb s "Reader" "read_behind"=some (s "Reader.read_behind"):=by kernel_rfl
@[simp] theorem Pz:mT Tb s "Reader" "read"=some (s "Reader.read"):=by kernel_rfl
@[simp] theorem Qy:wT Tb k "Reader" "run_of"=some (k "Reader.run_of"):=by kernel_rfl
@[simp] theorem Qx:wT Tb k "Reader" "skip_blanks"=some (k "Reader.skip_blanks"):=by kernel_rfl
@[simp] theorem Qw:wT Tb k "Reader" "fold"=some (k "Reader.fold"):=by kernel_rfl
@[simp] theorem Qv:wT Tb k "Reader" "has_sum"=some (k "Reader.has_sum"):=by kernel_rfl
@[simp] theorem Qu:wT Tb k "Reader" "last_mark"=some (k "Reader.last_mark"):=by kernel_rfl
@[simp] theorem Qs:wT Tb k "Reader" "read_end"=some (k "Reader.read_end"):=by kernel_rfl
@[simp] theorem Qr:wT Tb k "Reader" "touches"=some (k "Reader.touches"):=by kernel_rfl
@[simp] theorem Qq:wT Tb k "Reader" "keep"=some (k "Reader.keep"):=by kernel_rfl
@[simp] theorem Qp:wT Tb k "Reader" "read_number"=some (k "Reader.read_number"):=by kernel_rfl
@[simp] theorem O2:wT Tb k "Reader" "push"=some (k "Reader.push"):=by kernel_rfl
@[simp] theorem O1:wT Tb k "Reader" "read_letters"=some (k "Reader.read_letters"):=by kernel_rfl
@[simp] theorem O0:wT Tb k "Reader" "read_beginning"=some (k "Reader.read_beginning"):=by kernel_rfl
@[simp] theorem OZ:wT Tb k "Reader" "read_sign"=some (k "Reader.read_sign"):=by kernel_rfl
@[simp] theorem OY:wT Tb k "Reader" "read_round_end"=some (k "Reader.read_round_end"):=by kernel_rfl
@[simp] theorem OX:wT Tb k "Reader" "read_behind"=some (k "Reader.read_behind"):=by kernel_rfl
@[simp] theorem OW:wT Tb k "Reader" "read"=some (k "Reader.read"):=by kernel_rfl
@[simp] theorem Py:mT Tb s "Reader" "read_comparison"=some (s "Reader.read_comparison"):=by kernel_rfl
@[simp] theorem Pl:("read_comparison":Str) ∈ RK↔False:=by simp only[em];decide +kernel
@[simp] theorem OU:wT Tb k "Reader" "read_comparison"=some (k "Reader.read_comparison"):=by kernel_rfl
@[simp] theorem Px:mT Tb s "Reader" "read_joint"=some (s "Reader.read_joint"):=by kernel_rfl
@[simp] theorem Pk:("read_joint":Str) ∈ RK↔False:=by simp only[em];decide +kernel
@[simp] theorem OT:wT Tb k "Reader" "read_joint"=some (k "Reader.read_joint"):=by kernel_rfl
@[simp] theorem Pw:mT Tb s "Reader" "read_square_end"=some (s "Reader.read_square_end"):=by kernel_rfl
@[simp] theorem Pj:("read_square_end":Str) ∈ RK↔False:=by simp only[em];decide +kernel
@[simp] theorem OS:wT Tb k "Reader" "read_square_end"=some (k "Reader.read_square_end"):=by kernel_rfl
@[simp] theorem QQ:("run_of":Str) ∈ RK↔False:=by simp only[em];decide +kernel
@[simp] theorem QP:("skip_blanks":Str) ∈ RK↔False:=by simp only[em];decide +kernel
@[simp] theorem QO:("fold":Str) ∈ RK↔False:=by simp only[em];decide +kernel
@[simp] theorem QN:("has_sum":Str) ∈ RK↔False:=by simp only[em];decide +kernel
@[simp] theorem QM:("last_mark":Str) ∈ RK↔False:=by simp only[em];decide +kernel
@[simp] theorem QL:("read_end":Str) ∈ RK↔False:=by simp only[em];decide +kernel
@[simp] theorem QK:("touches":Str) ∈ RK↔False:=by simp only[em];decide +kernel
@[simp] theorem QJ:("keep":Str) ∈ RK↔False:=by simp only[em];decide +kernel
@[simp] theorem QI:("read_number":Str) ∈ RK↔False:=by simp only[em];decide +kernel
@[simp] theorem Ps:("push":Str) ∈ RK↔False:=by simp only[em];decide +kernel
@[simp] theorem Pr:("read_letters":Str) ∈ RK↔False:=by simp only[em];decide +kernel
@[simp] theorem Pq:("read_beginning":Str) ∈ RK↔False:=by simp only[em];decide +kernel
@[simp] theorem Pp:("read_sign":Str) ∈ RK↔False:=by simp only[em];decide +kernel
@[simp] theorem Po:("read_round_end":Str) ∈ RK↔False:=by simp only[em];decide +kernel
@[simp] theorem Pn:("read_behind":Str) ∈ RK↔False:=by simp only[em];decide +kernel
@[simp] theorem Pm:("read":Str) ∈ RK↔False:=by simp only[em];decide +kernel
end
@[simp] theorem atI_last(s:List t)(x:t):L2.atI (s++[x]) (-1)=some x:=by
 have h:L2.ya (s++[x]).length (-1)=some s.length:=by
  unfold L2.ya;rw[ar (by decide)];rw[aN,wV];first
   |(rw[ai (by lia)];congr 1;lia)
   |simp
 unfold L2.atI;rw[h];simp
variable{g w:Str}{u:List Nat}{i:Nat}{p:List P}{q:LS}
theorem xV(e:2≤n)(m h:Str)(a:q.length≤1000)(l:m.length≤1000000):aF Gv Att O Rs Tb n "Reader.push" [.ref 0,.p (.str m),.p (.str h)] (St g u i w p q)=some (.p .non,St g u (i+m.length) h p (q++[m])):=by
 obtain⟨n,rfl⟩:=eE (n:=n) (by first|assumption|lia);have x:q.length≤1000000:=by lia
 rw[lL];simp[bR,iL,St,eH,x,bE,bX,l]
theorem x_(x:2≤n)(t:P)(k:Nat)(m:p.length≤1000):aF Gv Att O Rs Tb n "Reader.keep" [.ref 0,.p t,.p (.int (k:Int))] (St g u i w p q)=some (.p .non,St g u (i+k) "" (p++[t]) q):=by
 obtain⟨n,rfl⟩:=eE (n:=n) (by first|assumption|lia);have h:p.length≤1000000:=by lia
 rw[lM];simp[bR,iM,St,eH,h]
theorem nY(h:2≤n):aF Gv Att O Rs Tb n "Reader.last_mark" [.ref 0] (St g u i w p [])=some (.p (.str ""),St g u i w p []):=by obtain⟨n,rfl⟩:=eE (n:=n) (by first|assumption|lia);rw[eU];simp[bR,dI,St,rm]
theorem lc(h:2≤n)(m:Str):aF Gv Att O Rs Tb n "Reader.last_mark" [.ref 0] (St g u i w p (q++[m]))=some (.p (.str m),St g u i w p (q++[m])):=by obtain⟨n,rfl⟩:=eE (n:=n) (by first|assumption|lia);rw[eU];simp[bR,dI,St,rm]
inductive Mk where
 |lp|pl|mi|ti
noncomputable def Mk.sg:Mk->Str
 | .lp=>"("
 | .pl=>"+"
 | .mi=>"-"
 | .ti=>"*"
noncomputable def Mk.lvl:Mk->Nat
 | .lp=>0
 | .pl=>5
 | .mi=>5
 | .ti=>6
noncomputable def Mk.kd:Mk->Str
 | .lp=>""
 | .pl=>"plus"
 | .mi=>"minus"
 | .ti=>"times"
noncomputable def fJ:List Mk->Nat
 | []=>0
 | .lp::r=>fJ r
 |_::r=>fJ r+1
def ba(l:Nat):List Mk->List P->List Mk×List P
 |m::q,o::e::p=>if l≤m.lvl then ba l q (.tup [.str m.kd,e,o]::p) else (m::q,o::e::p)
 |q,p=>(q,p)
def Sr(g:Str)(u:List Nat)(i:Nat)(w:Str)(s:List Mk×List P):aL:=St g u i w s.2.reverse (s.1.reverse.map Mk.sg)
theorem Np(m:Mk):cF m.sg [(("(":Str),P.int 0),("[",.int 0),("or",.int 1),("and",.int 2),("not",.int 3),("=",.int 4),("!=",.int 4),("<",.int 4),("<=",.int 4),(">",.int 4),(">=",.int 4),("+",.int 5),("-",.int 5),("*",.int 6)]=some (.int (m.lvl:Int)):=by cases m<;>kernel_rfl
theorem PP{m:Mk}(h:m.lvl≠0):cF m.sg [(("or":Str),P.str "or"),("and",.str "and"),("+",.str "plus"),("-",.str "minus"),("*",.str "times")]=some (.str m.kd):=by cases m<;>first|exact absurd rfl h|kernel_rfl
theorem He(m:Mk):¬m.sg=("not":Str):=by cases m<;>decide +kernel
theorem Hg(m:Mk)(S:aL):gE (.p (.str m.sg)) (.p (.tup [.str "=",.str "!=",.str "<",.str "<=",.str ">",.str ">="])) S=some (.bl false):=by cases m<;>kernel_rfl
theorem yf(s F:Str->GF)(k:Str->GX)(l:Nat)(B:1≤l):∀(q:List Mk)(p:List P)(f:Nat)(r t v:Option D),fJ q < p.length->q.length < f->p.length≤1000 ->
  ∃n b c,aV (cE (bT (aE (aT Att) Y "marks")) (bV (z6 (oA [("(",.int 0),("[",.int 0),("or",.int 1),("and",.int 2),("not",.int 3),("=",.int 4),("!=",.int 4),("<",.int 4),("<=",.int 4),(">",.int 4),(">=",.int 4),("+",.int 5),("-",.int 5),("*",.int 6)] (vE (lj (aE (aT Att) Y "marks") (yH kG cm)))) cJ))) (d9 s F k) f
   [qr 0,qi (l:Int),r,t,v] (Sr g u i w (q,p))=some (.nx,[qr 0,qi (l:Int),n,b,c],Sr g u i w (ba l q p))
 |q,p,0,r,t,v,_,h,_=>by lia
 | [],p,f+1,r,t,v,_,_,_=>by refine⟨r,t,v,?_⟩;rw[bu (h:=Sr g u i w ([],p)) (by simp[Sr,St,rm])];cases p<;>rfl
 |m::q,p,f+1,r,t,v,x,A,z=>by
  by_cases d:l≤m.lvl
  .have S:m.lvl≠0:=by lia
   have y:fJ (m::q)=fJ q+1:=by cases m<;>first|rfl|exact absurd rfl S
   rw[y]at x;match p,x,z with
   | [o],x,_=>simp at x
   | [],x,_=>simp at x
   |o::e::p,x,z=>
    simp only[aS]at x z A;obtain⟨n,b,c,K⟩:=yf s F k l B q (.tup [.str m.kd,e,o]::p) f (qs m.sg) (qp o) (qp e) (by simp;lia) (by lia) (by simp;lia);refine⟨n,b,c,?_⟩;rw[show ba l (m::q) (o::e::p)=ba l q (.tup [.str m.kd,e,o]::p) by simp[ba,d],<- K];have j:p.length≤1000000:=by lia
    have a:(l:Int)≤(m.lvl:Int):=by lia
    have H:=Np m;have C:=PP S;have E:=He m;have G:=Hg m;refine cW (h:=Sr g u i w (m::q,o::e::p)) ?_ ?_
    .simp [Sr,St,rm,H,a,d]
    .simp [d9,Sr,St,eH,C,E,G,j]
  .refine⟨r,t,v,?_⟩;have H:=Np m;have a:¬(l:Int)≤(m.lvl:Int):=by lia
   rw[bu (h:=Sr g u i w (m::q,p)) (by simp[Sr,St,rm,H,a,d])];match p with
   | []=>rfl
   | [o]=>rfl
   |o::e::p=>simp[ba,d]
theorem eQ(x:2≤n)(l:Nat)(h:1≤l)(q:List Mk)(p:List P)(o:fJ q < p.length)(m:q.length < 1000)(t:p.length≤1000):aF Gv Att O Rs Tb n "Reader.fold" [.ref 0,.p (.int (l:Int))] (Sr g u i w (q,p))=some (.p .non,Sr g u i w (ba l q p)):=by obtain⟨n,rfl⟩:=eE (n:=n) (by first|assumption|lia);obtain⟨a,s,k,e⟩:=yf (g:=g) (u:=u) (i:=i) (w:=w) (aF Gv Att O Rs Tb (n+1)) (aF Gv Att O Rs Tb n) (cO Gv Att O Rs Tb (n+1)) l h q p 1000 none none none o m t;rw[lO];unfold bR iO dR;simp only[aS,dh,aU,df,hZ,cT,mN,List.replicate,mM,eG];rw[e];rfl
variable{g w:Str}{u:List Nat}{i:Nat}{p:List P}{q:LS}
noncomputable def eO(c:Nat)(y:Str):Bool:=!(mn y ⟨#[c]⟩ 0 y.length 1).isEmpty
theorem db(c:Nat)(y:Str)(S:aL):gE (.p (.str ⟨#[c]⟩)) (.p (.str y)) S=some (.bl (eO c y)):=rfl
@[simp] theorem du(u:List Nat):(aG u).length=u.length:=by simp[aG,jo]
@[simp] theorem i0(u:List Nat):(aG u).cps.toList=u:=by simp[aG]
theorem cx(p:List t)(c:t)(r:List t):L2.atI (p++c::r) (p.length:Int)=some c:=cN (by lia) (by simp)
theorem bD{k:Int}(x:u.length≤1000000)(h:L2.atI u k=some c):mY (.str (aG u)) (.int k)=some (.str ⟨#[c]⟩):=by simp only[mY,du,i0,h];rw[ai (by rw[gG];exact x)];rfl
theorem BX(h:L[0]? = some (qr 0)):aE (aT Att) Y "spot" L (St g u i w p q)=some (.p (.int (i:Int)),St g u i w p q):=by simp[h,St]
theorem HL(h:L[0]? = some (qr 0)):aE (aT Att) Y "text" L (St g u i w p q)=some (.p (.str (aG u)),St g u i w p q):=by simp[h,St]
theorem AO(s S:Str->GF)(k:Str->GX)(y:Str)(n:u.length≤1000000):∀(run a o:List Nat)(f:Nat),u=a++(run++o)->(∀c ∈ run,eO c y=true)->(∀c r,o=c::r->eO c y=false)->run.length < f ->
  aV (cE (bV (dB kR (bF (aE (aT Att) Y "text")))) (bV (cc gE (lj (aE (aT Att) Y "text") kR) cQ))) (dF s S k) f
   [qr 0,qs y,qi (a.length:Int)] (St g u i w p q)=some (.nx,[qr 0,qs y,qi ((a.length+run.length:Nat):Int)],St g u i w p q)
 |run,a,o,0,_,_,_,h=>by lia
 | [],a,o,f+1,b,_,z,_=>by
  cases o with
  |nil=>
   have t:u.length=a.length:=by rw[b];simp
   have m:a.length≤1000000:=by lia
   rw[bu (h:=St g u i w p q) (by simp[St,bE,bX,n,t,m])];simp
  |cons c r=>
   have t:a.length < u.length:=by rw[b];simp
   have l:(a.length:Int) < (u.length:Int):=by lia
   have v:L2.atI u (a.length:Int)=some c:=by rw[b];exact cx a c r
   have d:=bD n v;have j:=z c r rfl;rw[bu (h:=St g u i w p q) (by simp[St,bE,bX,n,t,l,d,db,j])];simp
 |c::run,a,o,f+1,b,H,z,F=>by
  have e:=AO s S k y n run (a++[c]) o f (by rw[b];simp) (λx v=>H x (a_ _ v)) z (by simp at F;lia);have t:a.length < u.length:=by rw[b];simp
  have l:(a.length:Int) < (u.length:Int):=by lia
  have v:L2.atI u (a.length:Int)=some c:=by rw[b];exact cx a c _
  have d:=bD n v;have j:=H c aZ;rw[cW (h:=St g u i w p q) (L2:=[qr 0,qs y,qi ((a++[c]).length:Int)]) (x:=St g u i w p q) (by simp[St,bE,bX,n,t,l,d,db,j]) (by simp[dF])];rw[e];simp;lia
theorem o8(p run o:List Nat):Txt.slice (aG (p++(run++o))) (some (p.length:Int)) (some ((p.length+run.length:Nat):Int))=aG run:=by
 have h:=CM (x:=aG (p++(run++o))) (i:=(p.length:Int)) (j:=((p.length+run.length:Nat):Int)) ⟨by lia,by lia,by simp;lia⟩;have e:Txt.slice (aG (p++(run++o))) (some (p.length:Int)) (some ((p.length+run.length:Nat):Int))=jn (aG (p++(run++o))) (some (p.length:Int)) (some ((p.length+run.length:Nat):Int)):=rfl;rw[e,h];have a:((p.length:Int)).toNat=p.length:=by lia
 have s:(((p.length+run.length:Nat):Int)-(p.length:Int)).toNat=run.length:=by lia
 rw[a,s];simp[aG]
theorem nN(l:2≤n)(y:Str)(h run o:List Nat)(a:(h++(run++o)).length≤1000000)(j:∀c ∈ run,eO c y=true)(v:∀c r,o=c::r->eO c y=false)(t:run.length < 1000) :
  aF Gv Att O Rs Tb n "Reader.run_of" [.ref 0,.p (.str y)] (St g (h++(run++o)) h.length w p q)=some (.p (.str (aG run)),St g (h++(run++o)) h.length w p q):=by
 obtain⟨n,rfl⟩:=eE (n:=n) (by first|assumption|lia);have e:=AO (g:=g) (w:=w) (i:=h.length) (p:=p) (q:=q) (aF Gv Att O Rs Tb (n+1)) (aF Gv Att O Rs Tb n) (cO Gv Att O Rs Tb (n+1)) y a run h o 1000 rfl j v t;have b:=o8 h run o;rw[kB];generalize m:h++(run++o)=u at *
 have x:u.length≤1000000:=a;have s:=BX (g:=g) (u:=u) (i:=h.length) (w:=w) (p:=p) (q:=q) (L:=[qr 0,qs y,none]) rfl;have k:=BX (g:=g) (u:=u) (i:=h.length) (w:=w) (p:=p) (q:=q) (L:=[qr 0,qs y,qi ((h.length+run.length:Nat):Int)]) rfl;have f:=HL (g:=g) (u:=u) (i:=h.length) (w:=w) (p:=p) (q:=q) (L:=[qr 0,qs y,qi ((h.length+run.length:Nat):Int)]) rfl;have d:g9 (.str (aG u)) (some (h.length:Int)) (some ((h.length+run.length:Nat):Int))=some (.str (aG run)):=by simp only[g9,du];rw[ai (by rw[gG];exact x),b]
 simp only[bR,gH,dR,cA,LF,aj,aP,bw,U,rh,vE,bI,yg,aS,dh,aU,df,hZ,cT,mN,List.replicate,mM,eG,s,hB,wN,wO,e,k,f,Ar,wW,wX,d,kc]
theorem DT(m:3≤n)(h o:List Nat)(k:Nat)(a:(h++(List.replicate k 32++o)).length≤1000000)(b:∀c r,o=c::r->eO c " "=false)(f:k < 1000) :
  aF Gv Att O Rs Tb n "Reader.skip_blanks" [.ref 0] (St g (h++(List.replicate k 32++o)) h.length w p q)=some (.p .non,St g (h++(List.replicate k 32++o)) (h.length+k) w p q):=by
 obtain⟨n,rfl⟩:=eE (n:=n) (by first|assumption|lia);have e:=nN (g:=g) (w:=w) (p:=p) (q:=q) (n:=n+1) (by lia) " " h (List.replicate k 32) o a (λc s=>by rw[(mH.mp s).2];decide +kernel) b (by simpa using f);rw[ir];have x:k≤1000000:=by lia
 generalize h++(List.replicate k 32++o)=u at *
 simp only[St]at e;simp[bR,eB,St,e,bE,bX,x]
variable{g w:Str}{u:List Nat}{i:Nat}
inductive T where
 |num (n:Nat)|nam (c:List Nat)|bin (m:Mk) (l r:T)
def T.tp:T->P
 | .num n=>.tup [.str "number",.int (n:Int)]
 | .nam c=>.tup [.str "name",.str (aG c)]
 | .bin m l r=>.tup [.str m.kd,l.tp,r.tp]
def oZ(t:P):Prop:=∃k r,t=.tup (.str k::r)/\∀S,gE (.p (.str k)) (.p (.tup [.str "number",.str "name",.str "plus",.str "minus",.str "times"])) S=some (.bl true)
theorem AC{m:Mk}(h:m.lvl≠0)(a b:P):oZ (.tup [.str m.kd,a,b]):=⟨m.kd,[a,b],rfl,λS=>by cases m<;>first|exact absurd rfl h|kernel_rfl⟩
theorem AA(n:Int):oZ (.tup [.str "number",.int n]):=⟨_,_,rfl,λS=>by kernel_rfl⟩
theorem AB(x:Str):oZ (.tup [.str "name",.str x]):=⟨_,_,rfl,λS=>by kernel_rfl⟩
theorem BO(a:2≤n)(q:List Mk)(t:P)(p:List P)(h:oZ t):aF Gv Att O Rs Tb n "Reader.has_sum" [.ref 0] (Sr g u i w (q,t::p))=some (.p (.bl true),Sr g u i w (q,t::p)):=by obtain⟨n,rfl⟩:=eE (n:=n) (by first|assumption|lia);obtain⟨k,r,rfl,x⟩:=h;rw[j7];simp[bR,f_,Sr,St,x]
theorem sZ(r:2≤n)(a:u.length≤1000000)(h:i=0\/∃c,L2.atI u ((i:Int)-1)=some c/\eO c ("abcdefghijklmnopqrstuvwxyz"++"0123456789")=false) :
  aF Gv Att O Rs Tb n "Reader.touches" [.ref 0] (St g u i w p q)=some (.p (.bl false),St g u i w p q):=by
 obtain⟨n,rfl⟩:=eE (n:=n) (by first|assumption|lia);rw[fQ];by_cases e:i=0
 .subst e;simp[bR,ci,St]
 .rcases h with h|⟨c,k,f⟩
  .exact absurd h e
  .have d:=bD a k;have m:(0:Int) < (i:Int):=by lia
   have x:0 < i:=by lia
   have b:cM (.str ("abcdefghijklmnopqrstuvwxyz":Str)) (.str ("0123456789":Str))=some (.str ("abcdefghijklmnopqrstuvwxyz"++"0123456789")):=by kernel_rfl
   have s:=λS=>db c ("abcdefghijklmnopqrstuvwxyz"++"0123456789":Str) S;rw[f]at s;simp[bR,ci,St,d,m,x,-bP,b,s]
noncomputable def dg(n:Nat):List Nat:=(Nat.toDigits 10 n).map Char.toNat
structure Num(n:Int)(c:List Nat):Prop where
 ne:c≠[]
 le:c.length≤3
 al:∀x ∈ c,eO x "0123456789"=true
 nb:∀x ∈ c,eO x " "=false
 z:c[0]? = some 48->c.length=1
 v:eI [.str (aG c)]=some (.int n)
theorem G'{n:Nat}(L:3≤n){q:List Mk}{p:List P}(k:Int)(e run o:List Nat)(N:Num k run)(h:(e++(run++o)).length≤1000000)(G:∀c r,o=c::r->eO c "0123456789"=false)(z:p.length≤1000)
  (f:e.length=0\/∃c,L2.atI (e++(run++o)) ((e.length:Int)-1)=some c/\eO c ("abcdefghijklmnopqrstuvwxyz"++"0123456789")=false) :
  aF Gv Att O Rs Tb n "Reader.read_number" [.ref 0] (Sr g (e++(run++o)) e.length w (q,p))=some (.p .non,Sr g (e++(run++o)) (e.length+run.length) "" (q,.tup [.str "number",.int (k:Int)]::p)):=by
 obtain⟨n,rfl⟩:=eE (n:=n) (by first|assumption|lia);have D:=N.le;have m:=sZ (g:=g) (w:=w) (n:=n+1) (by lia) (p:=p.reverse) (q:=q.reverse.map Mk.sg) h f;have v:=nN (g:=g) (w:=w) (n:=n+1) (by lia) (p:=p.reverse) (q:=q.reverse.map Mk.sg) "0123456789" e run o h N.al G (by lia);have s:=x_ (g:=g) (w:=w) (u:=e++(run++o)) (i:=e.length) (n:=n+1) (by lia) (p:=p.reverse) (q:=q.reverse.map Mk.sg) (.tup [.str "number",.int (k:Int)]) run.length (by simpa using z);have A:=N.v;rw[eu];obtain⟨d,F⟩:∃a,run[0]? = some a:=by
  cases run with
  |nil=>exact absurd rfl N.ne
  |cons a b=>exact⟨a,rfl⟩
 have K:mY (.str (aG run)) (.int 0)=some (.str ⟨#[d]⟩):=bD (by lia) (cN (by decide) F);have E:fX [.int (run.length:Int),.int 3]=some (.int (run.length:Int)):=by
  simp only[fX];first
   |(rw[ai (by lia)])
   |(rw[ar (by lia)])
   |(congr 2;lia)
 have l:run.length≤1000000:=by lia
 have S:=N.z;generalize C:e++(run++o)=u at *
 rw[show Sr g u (e.length+run.length) "" (q,.tup [.str "number",.int (k:Int)]::p)=St g u (e.length+run.length) "" (p.reverse++[.tup [.str "number",.int (k:Int)]]) (q.reverse.map Mk.sg) by simp[Sr]];unfold Sr;dsimp only;have I:p.reverse.length≤1000:=by simpa using z
 clear z;generalize p.reverse=Q at *
 generalize q.reverse.map Mk.sg=M at *
 have t:(aG run).length=run.length:=du run;generalize aG run=tr at *
 by_cases H:(⟨#[d]⟩:Str)="0"
 .have j:d=48:=by
   have:=dz (λx:Str=>x.cps.toList) H;have B:(("0":Str)).cps.toList=[48]:=by decide +kernel
   rw[B]at this;simpa using this
  have y:run.length=1:=S (by rw[F,j]);rw[y]at s t ⊢;simp only[St]at m v s ⊢;simp at s;simp[bR,bK,m,v,K,H,bE,bX,t,A,s]
 .simp only[St]at m v s ⊢;simp at s;simp[bR,bK,m,v,K,H,bE,bX,t,l,E,A,s]
end My
namespace My
open PySem L2 Ev
variable{q w:Str}{p:List Nat}{i:Nat}
structure Nam(c:List Nat):Prop where
 lt:∀x ∈ c,x < 128
 ne:c≠[]
 le:c.length≤10
 al:∀x ∈ c,eO x "abcdefghijklmnopqrstuvwxyz"=true
 nf:∀x ∈ c,eO x "0123456789"=false
 nb:∀x ∈ c,eO x " "=false
 nw:∀S,gE (.p (.str (aG c))) (.p (.tup [.str "or",.str "and",.str "not",.str "true"])) S=some (.bl false)
theorem BW:¬("factor":Str)=("part":Str):=by decide +kernel
variable{n:Nat}{s:List Mk}{f:List P}
theorem Hj(y:3≤n)(e run o:List Nat)(N:Nam run)(h:(e++(run++o)).length≤1000000)(d:∀c r,o=c::r->eO c "abcdefghijklmnopqrstuvwxyz"=false)(u:f.length≤1000) :
  aF Gv Att O Rs Tb n "Reader.read_letters" [.ref 0] (Sr q (e++(run++o)) e.length "factor" (s,f))=some (.p .non,Sr q (e++(run++o)) (e.length+run.length) "" (s,.tup [.str "name",.str (aG run)]::f)):=by
 obtain⟨n,rfl⟩:=eE (n:=n) (by first|assumption|lia);have v:=N.le;have a:=nN (g:=q) (w:="factor") (n:=n+1) (by lia) (p:=f.reverse) (q:=s.reverse.map Mk.sg) "abcdefghijklmnopqrstuvwxyz" e run o h N.al d (by lia);have x:=x_ (g:=q) (w:="factor") (u:=e++(run++o)) (i:=e.length) (n:=n+1) (by lia) (p:=f.reverse) (q:=s.reverse.map Mk.sg) (.tup [.str "name",.str (aG run)]) run.length (by simpa using u);have j:=N.nw;rw[ef];have l:run.length≤1000000:=by lia
 have m:¬(10:Int) < (run.length:Int):=by lia
 have g:¬10 < run.length:=by lia
 generalize k:e++(run++o)=p at *
 rw[show Sr q p (e.length+run.length) "" (s,.tup [.str "name",.str (aG run)]::f)=St q p (e.length+run.length) "" (f.reverse++[.tup [.str "name",.str (aG run)]]) (s.reverse.map Mk.sg) by simp[Sr]];unfold Sr;dsimp only;generalize f.reverse=H at *
 generalize s.reverse.map Mk.sg=z at *
 have t:(aG run).length=run.length:=du run;generalize aG run=tr at *
 have b:=BW;simp only[St]at a x ⊢;simp at x;simp[bR,bW,a,bE,bX,t,l,m,g,b,j,x]
theorem Li(S:aL):gE (.p (.str ⟨#[40]⟩)) (.p (.str "0123456789")) S=some (.bl false)/\gE (.p (.str ⟨#[40]⟩)) (.p (.str "abcdefghijklmnopqrstuvwxyz")) S=some (.bl false):=⟨by kernel_rfl,by kernel_rfl⟩
variable{S:aL}{c:Nat}
theorem Fj(f:2≤n)(s:eO c "0123456789"=true)(e:∃k d,S[0]? = some (.ins "Reader" RK d)/\k=RK)(h:aF Gv Att O Rs Tb (n-1) "Reader.read_number" [.ref 0] S=some (.p .non,x)) :
  aF Gv Att O Rs Tb n "Reader.read_beginning" [.ref 0,.p (.str ⟨#[c]⟩)] S=some (.p .non,x):=by
 obtain⟨n,rfl⟩:=eE (n:=n) (by first|assumption|lia);obtain⟨_,d,a,_⟩:=e;have g:=λS=>db c "0123456789" S;rw[s]at g;rw[show n+2-1=n+1 by lia]at h;rw[bf];simp[bR,a',g,a,h]
theorem Fk(m:2≤n)(f:eO c "0123456789"=false)(x:eO c "abcdefghijklmnopqrstuvwxyz"=true)(k:∃b d,S[0]? = some (.ins "Reader" RK d)/\b=RK)(h:aF Gv Att O Rs Tb (n-1) "Reader.read_letters" [.ref 0] S=some (.p .non,e)) :
  aF Gv Att O Rs Tb n "Reader.read_beginning" [.ref 0,.p (.str ⟨#[c]⟩)] S=some (.p .non,e):=by
 obtain⟨n,rfl⟩:=eE (n:=n) (by first|assumption|lia);obtain⟨_,d,s,_⟩:=k;have a:=λS=>db c "0123456789" S;rw[f]at a;have g:=λS=>db c "abcdefghijklmnopqrstuvwxyz" S;rw[x]at g;rw[show n+2-1=n+1 by lia]at h;rw[bf];simp[bR,a',a,g,s,h]
theorem No:(⟨#[40]⟩:Str)="(":=by decide +kernel
theorem Io(k:3≤n)(s:List Mk)(f:List P)(m:s.length≤1000):aF Gv Att O Rs Tb n "Reader.read_beginning" [.ref 0,.p (.str ⟨#[40]⟩)] (Sr q p i w (s,f))=some (.p .non,Sr q p (i+1) "factor" (.lp::s,f)):=by
 obtain⟨n,rfl⟩:=eE (n:=n) (by first|assumption|lia);have e:=xV (g:=q) (u:=p) (i:=i) (w:=w) (p:=f.reverse) (q:=s.reverse.map Mk.sg) (n:=n+1) (by lia) "(" "factor" (by simpa using m) (by decide +kernel);have l:("(":Str).length=1:=by decide +kernel
 rw[l]at e;rw[bf];rw[show Sr q p (i+1) "factor" (.lp::s,f)=St q p (i+1) "factor" f.reverse (s.reverse.map Mk.sg++[("(":Str)]) by simp[Sr,Mk.sg]];unfold Sr;dsimp only;generalize f.reverse=t at *
 generalize s.reverse.map Mk.sg=r at *
 have h:=λS=>(Li S).1;have x:=λS=>(Li S).2;have a:=No;rw[a]at h x;simp only[St]at e ⊢;simp at e;simp[bR,a',h,x,a,e]
noncomputable def Mk.ch:Mk->Nat
 | .lp=>40
 | .pl=>43
 | .mi=>45
 | .ti=>42
theorem Nn(m:Mk):(⟨#[m.ch]⟩:Str)=m.sg:=by cases m<;>decide +kernel
theorem Ko{m:Mk}(h:m.lvl≠0)(S:aL):gE (.p (.str m.sg)) (.p (.str "+-*")) S=some (.bl true):=by cases m<;>first|exact absurd rfl h|kernel_rfl
theorem Bo(m:Mk):m.sg.length=1:=by cases m<;>decide +kernel
theorem g7(l:Nat):∀(s:List Mk)(f:List P),(ba l s f).1.length≤s.length/\(ba l s f).2.length≤f.length
 | [],f=>by cases f<;>simp[ba]
 |m::s,[]=>by simp[ba]
 |m::s,[o]=>by simp[ba]
 |m::s,o::e::f=>by
  unfold ba;split
  .have:=g7 l s (.tup [.str m.kd,e,o]::f);simp only[aS]at this ⊢;lia
  .exact⟨aw _,aw _⟩
theorem DU{n:Nat}(z:3≤n){m:Mk}(y:m.lvl≠0)(s:List Mk)(t:P)(f:List P)(h:oZ t)(o:fJ s < (t::f).length)(v:s.length < 1000)(d:(t::f).length≤1000) :
  aF Gv Att O Rs Tb n "Reader.read_sign" [.ref 0,.p (.str m.sg)] (Sr q p i w (s,t::f))=some (.p .non,Sr q p (i+1) "factor" (m::(ba m.lvl s (t::f)).1,(ba m.lvl s (t::f)).2)):=by
 obtain⟨n,rfl⟩:=eE (n:=n) (by first|assumption|lia);have e:=BO (g:=q) (u:=p) (i:=i) (w:=w) (n:=n+1) (by lia) s t f h;have k:=eQ (g:=q) (u:=p) (i:=i) (w:=w) (n:=n+1) (by lia) m.lvl (by lia) s (t::f) o v d;have l:=(g7 m.lvl s (t::f)).1;generalize ba m.lvl s (t::f)=r at *
 obtain⟨x,a⟩:=r;have c:x.length≤1000:=bN l (by lia);have b:=xV (g:=q) (u:=p) (i:=i) (w:=w) (p:=a.reverse) (q:=x.reverse.map Mk.sg) (n:=n+1) (by lia) m.sg "factor" (by simpa using c) (by rw[Bo];decide);rw[Bo]at b;have u:=Np m;rw[jd];rw[show Sr q p (i+1) "factor" (m::(x,a).1,(x,a).2)=St q p (i+1) "factor" a.reverse (x.reverse.map Mk.sg++[m.sg]) by simp[Sr]];unfold Sr at e k ⊢;dsimp only at e k ⊢;generalize a.reverse=j at *
 generalize x.reverse.map Mk.sg=g at *
 generalize (t::f).reverse=S at *
 generalize s.reverse.map Mk.sg=H at *
 simp only[St]at e k b ⊢;simp at b;simp[bR,eW,e,u,k,b]
theorem Ik{n:Nat}(c:4≤n){m:Mk}(a:m.lvl≠0)(s:List Mk)(t:P)(f:List P)(h:oZ t)(o:fJ s < (t::f).length)(x:s.length < 1000)(k:(t::f).length≤1000) :
  aF Gv Att O Rs Tb n "Reader.read_behind" [.ref 0,.p (.str ⟨#[m.ch]⟩)] (Sr q p i w (s,t::f))=some (.p .non,Sr q p (i+1) "factor" (m::(ba m.lvl s (t::f)).1,(ba m.lvl s (t::f)).2)):=by
 obtain⟨n,rfl⟩:=eE (n:=n) (by first|assumption|lia);have e:=DU (q:=q) (p:=p) (i:=i) (w:=w) (n:=n+1) (by lia) a s t f h o x k;have b:=Ko a;rw[Nn,cY];generalize Sr q p (i+1) "factor" (m::(ba m.lvl s (t::f)).1,(ba m.lvl s (t::f)).2)=S at *
 unfold Sr at e ⊢;dsimp only at e ⊢;generalize (t::f).reverse=v at *
 generalize s.reverse.map Mk.sg=r at *
 simp only[St]at e ⊢;simp[bR,aW,b,e]
theorem Ie(S:aL):gE (.p (.str ⟨#[41]⟩)) (.p (.str "+-*")) S=some (.bl false)/\gE (.p (.str ⟨#[41]⟩)) (.p (.str "=!<>")) S=some (.bl false)/\gE (.p (.str ⟨#[41]⟩)) (.p (.str "abcdefghijklmnopqrstuvwxyz")) S=some (.bl false):=⟨by kernel_rfl,by kernel_rfl,by kernel_rfl⟩
theorem M5:(⟨#[41]⟩:Str)=")":=by decide +kernel
theorem D0(c:3≤n)(s:List Mk)(f:List P)(o:fJ s < f.length)(x:s.length < 1000)(k:f.length≤1000)(m:List Mk)(t:List P)(a:ba 5 s f=(.lp::m,t)) :
  aF Gv Att O Rs Tb n "Reader.read_round_end" [.ref 0] (Sr q p i w (s,f))=some (.p .non,Sr q p (i+1) w (m,t)):=by
 obtain⟨n,rfl⟩:=eE (n:=n) (by first|assumption|lia);have e:=eQ (g:=q) (u:=p) (i:=i) (w:=w) (n:=n+1) (by lia) 5 (by lia) s f o x k;rw[a]at e;have h:=lc (g:=q) (u:=p) (i:=i) (w:=w) (p:=t.reverse) (q:=m.reverse.map Mk.sg) (n:=n+1) (by lia) "(";rw[dP];unfold Sr at e ⊢;simp only[mG,kf,aU,df,Mk.sg]at e h ⊢;generalize t.reverse=b at *
 generalize m.reverse.map Mk.sg=r at *
 generalize f.reverse=d at *
 generalize s.reverse.map Mk.sg=v at *
 rw[show((5:Nat):Int)=5 from rfl]at e;simp only[St,kf,aU,df]at e h ⊢;simp[bR,cn,e,h,eH]
theorem Ij(d:4≤n)(s:List Mk)(f:List P)(o:fJ s < f.length)(h:s.length < 1000)(r:f.length≤1000)(m:List Mk)(t:List P)(c:ba 5 s f=(.lp::m,t)) :
  aF Gv Att O Rs Tb n "Reader.read_behind" [.ref 0,.p (.str ⟨#[41]⟩)] (Sr q p i w (s,f))=some (.p .non,Sr q p (i+1) w (m,t)):=by
 obtain⟨n,rfl⟩:=eE (n:=n) (by first|assumption|lia);have e:=D0 (q:=q) (p:=p) (i:=i) (w:=w) (n:=n+1) (by lia) s f o h r m t c;have x:=λS=>(Ie S).1;have a:=λS=>(Ie S).2.1;have k:=λS=>(Ie S).2.2;have b:=M5;rw[cY];generalize Sr q p (i+1) w (m,t)=v at *
 unfold Sr at e ⊢;dsimp only at e ⊢;generalize f.reverse=g at *
 generalize s.reverse.map Mk.sg=u at *
 simp only[St]at e ⊢;rw[b]at x a k;simp[bR,aW,b,x,a,k,e]
theorem HQ(c:3≤n)(s:List Mk)(f:List P)(o:fJ s < f.length)(m:s.length < 1000)(b:f.length≤1000)(t:P)(k:ba 4 s f=([],[t])) :
  aF Gv Att O Rs Tb n "Reader.read_end" [.ref 0] (Sr "factor" p i w (s,f))=some (.p t,Sr "factor" p i w ([],[t])):=by
 obtain⟨n,rfl⟩:=eE (n:=n) (by first|assumption|lia);have e:=eQ (g:="factor") (u:=p) (i:=i) (w:=w) (n:=n+1) (by lia) 4 (by lia) s f o m b;rw[k]at e;have h:=eQ (g:="factor") (u:=p) (i:=i) (w:=w) (n:=n+1) (by lia) 1 (by lia) [] [t] (by simp[fJ]) (by simp) (by simp);have a:=nY (g:="factor") (u:=p) (i:=i) (w:=w) (p:=[t]) (n:=n+1) (by lia);rw[ff];have x:=BW;unfold Sr at e h ⊢;dsimp only at e h ⊢;generalize f.reverse=v at *
 generalize s.reverse.map Mk.sg=r at *
 rw[show((4:Nat):Int)=4 from rfl]at e;rw[show((1:Nat):Int)=1 from rfl,show ba 1 [] [t]=([],[t]) from rfl]at h;simp only[St,mG,wJ,cT,aU,df]at e a h ⊢;simp[bR,dS,e,h,a,x]
variable{q w:Str}{p:List Nat}{i:Nat}
noncomputable def ei(c:Nat):Bool:=decide (48≤c) && decide (c≤57)
noncomputable def ee(c:Nat):Bool:=decide (97≤c) && decide (c≤122)
noncomputable def EG(c:Nat):Bool:=c == 43 ||c == 45 ||c == 42
theorem cX:∀c < 128,eO c "0123456789"=ei c/\eO c "abcdefghijklmnopqrstuvwxyz"=ee c/\eO c " "=(c == 32)/\eO c "+-*"=EG c/\eO c "abcdefghijklmnopqrstuvwxyz0123456789"=(ee c ||ei c)/\eO c ("abcdefghijklmnopqrstuvwxyz"++"0123456789")=(ee c ||ei c):=by decide +kernel
theorem jv(h:Str.ofString a=⟨#[k]⟩):((⟨#[c]⟩:Str)=Str.ofString a)=(c=k):=by rw[h];exact propext ⟨λe=>by simpa using dz (λx:Str=>x.cps.toList) e,λe=>by rw[e]⟩
theorem rV(c:Nat):((⟨#[c]⟩:Str)=Str.ofString "(")=(c=40):=jv (by decide +kernel)
theorem En(c:Nat):((⟨#[c]⟩:Str)=Str.ofString ")")=(c=41):=jv (by decide +kernel)
theorem KJ(c:Nat):((⟨#[c]⟩:Str)=Str.ofString "[")=(c=91):=jv (by decide +kernel)
theorem KI(c:Nat):((⟨#[c]⟩:Str)=Str.ofString "]")=(c=93):=jv (by decide +kernel)
theorem oJ(c:Nat):((⟨#[c]⟩:Str)=Str.ofString " ")=(c=32):=jv (by decide +kernel)
theorem CI(c:Nat):((⟨#[c]⟩:Str)=Str.ofString "0")=(c=48):=jv (by decide +kernel)
@[simp] theorem QG:("NoText":Str) ∈ Rs:=by decide +kernel
def Rz(n:Nat)(f:Str)(d:List D)(S:aL)(p:Nat):Prop:=aF Gv Att O Rs Tb n f d S=none/\∃h,cO Gv Att O Rs Tb n f d S=some ((("NoText":Str),some (("place":Str),P.int (p:Int))),h)
theorem Eo(K:3≤n)(e run o:List Nat)(j:run[0]? = some u)(g:l=if u=48 then 1 else min run.length 3)(t:l < run.length)(F:∀c ∈ run,eO c "0123456789"=true)(k:(e++(run++o)).length≤1000000)(S:∀c r,o=c::r->eO c "0123456789"=false)(H:run.length < 1000)
  (v:e.length=0\/∃c,L2.atI (e++(run++o)) ((e.length:Int)-1)=some c/\eO c ("abcdefghijklmnopqrstuvwxyz"++"0123456789")=false) :
  Rz n "Reader.read_number" [.ref 0] (Sr q (e++(run++o)) e.length w (s,f)) (e.length+l):=by
 obtain⟨n,rfl⟩:=eE (n:=n) (by first|assumption|lia);have b:=sZ (g:=q) (w:=w) (n:=n+1) (by lia) (p:=f.reverse) (q:=s.reverse.map Mk.sg) k v;have m:=nN (g:=q) (w:=w) (n:=n+1) (by lia) (p:=f.reverse) (q:=s.reverse.map Mk.sg) "0123456789" e run o k F S H;have d:mY (.str (aG run)) (.int 0)=some (.str ⟨#[u]⟩):=bD (by lia) (cN (by decide) j);have x:run.length≤1000000:=by lia
 generalize y:e++(run++o)=p at *
 unfold Sr Rz;dsimp only;generalize f.reverse=A at *
 generalize s.reverse.map Mk.sg=P at *
 have a:(aG run).length=run.length:=du run;generalize aG run=tr at *
 rw[eu,gX];simp only[St]at b m ⊢;by_cases z:u=48
 .rw [ai z]at g;subst g;have h:(1:Int) < (run.length:Int):=by lia
  exact⟨by simp[bR,bK,b,m,d,CI,z,bE,bX,a,x,t,h,cA],_,by simp[bh,fnX,cK,b,m,d,CI,z,bE,bX,a,x,t,h];rfl⟩
 .rw [ar z]at g;have i:fX [.int (run.length:Int),.int 3]=some (.int (l:Int)):=by
   simp only[fX];congr 2;split<;>lia
  have h:(l:Int) < (run.length:Int):=by lia
  exact⟨by simp[bR,bK,b,m,d,CI,z,bE,bX,a,x,t,h,i,cA],_,by simp[bh,fnX,cK,b,m,d,CI,z,bE,bX,a,x,t,h,i];rfl⟩
variable{q w:Str}{p:List Nat}{i:Nat}
theorem kY{c:List Nat}(h:∀x ∈ c,x < 128):pZ (aG c)=true:=by
 show(aG c).cps.all (λc=>decide (c < 0x110000))=true;rw[Array.all_eq_true_iff_forall_mem];intro x a;have:=h x (by simpa[aG] using a)
 exact fE (by lia)
noncomputable def zF(x:Str):Bool:=decide (x=("or":Str)) ||decide (x=("and":Str)) ||decide (x=("not":Str)) ||decide (x=("true":Str))
theorem BS(s:pZ x=true)(S:aL):gE (.p (.str x)) (.p (.tup [.str "or",.str "and",.str "not",.str "true"])) S=some (.bl (zF x)):=by
 have e:∀a b:Str,fh (.str a) (.str b)=decide (b=a):=λa b=>by
  rw[show fh (.str a) (.str b)=(a == b) from rfl];by_cases h:a=b
  .simp [h]
  .simp [h,bZ h]
 have o:hG 19 (.str x)=true:=s;show mx P.bl (if (List.all _ (hG 19) && hG 19 (.str x))=true then _ else _)=_;rw[o,Bool.and_true,ai (by decide +kernel)];simp only[ep,wE,pd,e,qw,kc,zF,Bool.or_assoc]
theorem ED(h:zF x=true):x.length≤4:=by simp only[zF,jp,jF]at h;rcases h with ((rfl|rfl)|rfl)|rfl<;>decide +kernel
theorem Eu(z:3≤n)(e run o:List Nat)(g:∀c ∈ run,c < 128)(l:10 < run.length/\k=10\/run.length≤10/\zF (aG run)=true/\k=run.length)(F:∀c ∈ run,eO c "abcdefghijklmnopqrstuvwxyz"=true)(b:(e++(run++o)).length≤1000000)(y:∀c r,o=c::r->eO c "abcdefghijklmnopqrstuvwxyz"=false)(j:run.length < 1000) :
  Rz n "Reader.read_letters" [.ref 0] (Sr q (e++(run++o)) e.length "factor" (s,f)) (e.length+k):=by
 obtain⟨n,rfl⟩:=eE (n:=n) (by first|assumption|lia);have x:=nN (g:=q) (w:="factor") (n:=n+1) (by lia) (p:=f.reverse) (q:=s.reverse.map Mk.sg) "abcdefghijklmnopqrstuvwxyz" e run o b F y j;have v:=BS (kY g);have h:run.length≤1000000:=by lia
 generalize i:e++(run++o)=p at *
 unfold Sr Rz;dsimp only;generalize f.reverse=S at *
 generalize s.reverse.map Mk.sg=H at *
 have t:(aG run).length=run.length:=du run;generalize aG run=tr at *
 rw[ef,gK];simp only[St]at x ⊢;rcases l with ⟨m,rfl⟩|⟨m,u,rfl⟩
 .have a:(10:Int) < (run.length:Int):=by lia
  exact⟨by simp[bR,bW,x,bE,bX,t,h,m,a,cA],_,by simp[bh,fnX,cz,x,bE,bX,t,h,m,a];rfl⟩
 .have a:¬(10:Int) < (run.length:Int):=by lia
  have d:¬10 < run.length:=by lia
  rw[u]at v;exact⟨by simp[bR,bW,x,bE,bX,t,h,a,d,v,cA],_,by simp[bh,fnX,cz,x,bE,bX,t,h,a,d,v];rfl⟩
theorem JT(q:Str)(p:List Nat)(i:Nat)(w:Str)(s:List Mk×List P):∃d,(Sr q p i w s)[0]? = some (.ins "Reader" RK d):=⟨_,rfl⟩
theorem Il(m:2≤n)(k:∃d,S[0]? = some (.ins "Reader" RK d))(f:eO c "0123456789"=true)(h:Rz (n-1) "Reader.read_number" [.ref 0] S x):Rz n "Reader.read_beginning" [.ref 0,.p (.str ⟨#[c]⟩)] S x:=by obtain⟨n,rfl⟩:=eE (n:=n) (by first|assumption|lia);have g:=λS=>db c "0123456789" S;rw[f]at g;rw[show n+2-1=n+1 by lia]at h;obtain⟨e,b,s⟩:=h;unfold Rz;rw[bf,ce];obtain⟨d,a⟩:=k;exact⟨by simp[bR,a',g,a,e,cA],_,by simp[bh,fnX,bH,g,a,s];rfl⟩
theorem Im(t:2≤n)(b:∃d,S[0]? = some (.ins "Reader" RK d))(m:eO c "0123456789"=false)(a:eO c "abcdefghijklmnopqrstuvwxyz"=true)(h:Rz (n-1) "Reader.read_letters" [.ref 0] S x):Rz n "Reader.read_beginning" [.ref 0,.p (.str ⟨#[c]⟩)] S x:=by obtain⟨n,rfl⟩:=eE (n:=n) (by first|assumption|lia);have e:=λS=>db c "0123456789" S;rw[m]at e;have g:=λS=>db c "abcdefghijklmnopqrstuvwxyz" S;rw[a]at g;rw[show n+2-1=n+1 by lia]at h;obtain⟨k,r,f⟩:=h;unfold Rz;rw[bf,ce];obtain⟨d,s⟩:=b;exact⟨by simp[bR,a',e,g,s,k,cA],_,by simp[bh,fnX,bH,e,g,s,f];rfl⟩
theorem Fm(k:2≤n)(s:eO c "0123456789"=false)(x:eO c "abcdefghijklmnopqrstuvwxyz"=false)(e:c≠40):Rz n "Reader.read_beginning" [.ref 0,.p (.str ⟨#[c]⟩)] (Sr q p i "factor" h) i:=by obtain⟨n,rfl⟩:=eE (n:=n) (by first|assumption|lia);have a:=λS=>db c "0123456789" S;rw[s]at a;have g:=λS=>db c "abcdefghijklmnopqrstuvwxyz" S;rw[x]at g;unfold Rz;rw[bf,ce];simp only[Sr,St];exact⟨by simp[bR,a',a,g,rV,KJ,e,cA],_,by simp[bh,fnX,bH,a,g,rV,KJ,e];rfl⟩
variable{q w:Str}{p:List Nat}{i:Nat}
noncomputable def oM:List Mk->Nat
 | []=>0
 | .lp::r=>oM r+1
 |_::r=>oM r
theorem vd(h:m.lvl≠0)(r:List Mk):oM (m::r)=oM r:=by cases m<;>first|rfl|exact absurd rfl h
structure Iv(w:Bool)(ms:List Mk)(ts:List P):Prop where
 a:ts.length=fJ ms+(if w=true then 0 else 1)
 b:∀t ∈ ts,oZ t
set_option tactic.hygienic true in
theorem fP(l:Nat)(k:1≤l):∀(s:List Mk)(f:List P),Iv false s f->Iv false (ba l s f).1 (ba l s f).2/\oM (ba l s f).1=oM s
 | [],f,h=>by cases f<;>exact⟨h,rfl⟩
 |m::s,[],h=>⟨h,rfl⟩
 |m::s,[o],h=>⟨h,rfl⟩
 |m::s,o::e::f,h=>by
  unfold ba;split
  .rename_i b;have x:m.lvl≠0:=by lia
   rw[vd x];refine fP l k s _ ⟨?_,λt a=>?_⟩
   .have n:=h.a;have:fJ (m::s)=fJ s+1:=by cases m<;>first|rfl|exact absurd rfl x
    rw[this]at n;simp only[aS,fj,gW]at n ⊢;lia
   .rcases av.mp a with rfl|a
    .exact AC x e o
    .exact h.b t (a_ _ (a_ _ a))
  .exact⟨h,rfl⟩
set_option tactic.hygienic true in
theorem jc(l:Nat)(a:l≤5)(n:1≤l):∀(s:List Mk)(f:List P),fJ s < f.length->(ba l s f).1=[]/\oM s=0\/∃r,(ba l s f).1=.lp::r/\oM s=oM r+1
 | [],f,h=>by cases f<;>exact .inl ⟨rfl,rfl⟩
 |m::s,[],h=>absurd h (ki _)
 |m::s,[o],h=>by
  cases m with
  |lp=>exact .inr ⟨s,rfl,rfl⟩
  |_=>simp[fJ]at h
 |m::s,o::e::f,h=>by
  unfold ba;split
  .rename_i x;have k:m.lvl≠0:=by lia
   have:fJ (m::s)=fJ s+1:=by cases m<;>first|rfl|exact absurd rfl k
   rw[vd k];rw[this]at h;exact jc l a n s _ (by simp at h ⊢;lia)
  .rename_i x;cases m with
   |lp=>exact .inr ⟨s,rfl,rfl⟩
   |pl=>exact absurd a x
   |mi=>exact absurd a x
   |ti=>exact absurd (show l≤6 by lia) x
theorem gC(h:Iv false s f):fJ s < f.length:=by have:=h.a;simp at this;lia
theorem BD(h:Iv false s f):∃t r,f=t::r/\oZ t:=by
 cases f with
 |nil=>exact absurd (gC h) (ki _)
 |cons t r=>exact⟨t,r,rfl,h.b t aZ⟩
theorem BP(x:2≤n)(h:Iv false s f):aF Gv Att O Rs Tb n "Reader.has_sum" [.ref 0] (Sr q p i w (s,f))=some (.p (.bl true),Sr q p i w (s,f)):=by obtain⟨t,r,rfl,a⟩:=BD h;exact BO x s t r a
theorem E2(d:3≤n)(x:Str)(h:Iv false s f)(k:s.length < 1000)(t:f.length≤1000):Rz n "Reader.read_comparison" [.ref 0,.p (.str x)] (Sr "factor" p i w (s,f)) i:=by
 obtain⟨n,rfl⟩:=eE (n:=n) (by first|assumption|lia);have e:=eQ (g:="factor") (u:=p) (i:=i) (w:=w) (n:=n+1) (by lia) 5 (by lia) s f (gC h) k t;have l:∃m,aF Gv Att O Rs Tb (n+1) "Reader.last_mark" [.ref 0] (Sr "factor" p i w (ba 5 s f))=some (.p (.str m),Sr "factor" p i w (ba 5 s f)):=by
  cases b:(ba 5 s f).1 with
  |nil=>exact⟨_,by have:=nY (g:="factor") (u:=p) (i:=i) (w:=w) (p:=(ba 5 s f).2.reverse) (n:=n+1) (by lia);simpa[Sr,b] using this⟩
  |cons m r=>exact⟨_,by have:=lc (g:="factor") (u:=p) (i:=i) (w:=w) (p:=(ba 5 s f).2.reverse) (q:=r.reverse.map Mk.sg) (n:=n+1) (by lia) m.sg;simpa[Sr,b] using this⟩
 obtain⟨m,a⟩:=l;rw[show((5:Nat):Int)=5 from rfl]at e;unfold Rz;rw[fS,fq];unfold Sr at e a ⊢;dsimp only at e a ⊢;generalize (ba 5 s f).2.reverse=v at *
 generalize (ba 5 s f).1.reverse.map Mk.sg=c at *
 generalize f.reverse=g at *
 generalize s.reverse.map Mk.sg=u at *
 simp only[St]at e a ⊢;exact⟨by simp[bR,dH,e,a,cA],_,by simp[bh,fnX,dt,e,a];rfl⟩
theorem y_(d:3≤n)(x:Str)(h:Iv false s f)(m:s.length < 1000)(c:f.length≤1000)(t:∀f s,∃b,aF Gv Att O Rs Tb (n-1) "Reader.touches" [.ref 0] (St "factor" p i w f s)=some (.p (.bl b),St "factor" p i w f s)):Rz n "Reader.read_joint" [.ref 0,.p (.str x)] (Sr "factor" p i w (s,f)) i:=by
 obtain⟨n,rfl⟩:=eE (n:=n) (by first|assumption|lia);have e:=eQ (g:="factor") (u:=p) (i:=i) (w:=w) (n:=n+1) (by lia) 4 (by lia) s f (gC h) m c;have k:=BP (q:="factor") (p:=p) (i:=i) (w:=w) (n:=n+1) (by lia) (fP 4 (by lia) s f h).1;obtain⟨b,a⟩:=t (ba 4 s f).2.reverse ((ba 4 s f).1.reverse.map Mk.sg);rw[show n+2-1=n+1 by lia]at a;rw[show((4:Nat):Int)=4 from rfl]at e;unfold Rz;rw[iQ,h_];unfold Sr at e k ⊢;dsimp only at e k ⊢;generalize (ba 4 s f).2.reverse=v at *
 generalize (ba 4 s f).1.reverse.map Mk.sg=r at *
 generalize f.reverse=g at *
 generalize s.reverse.map Mk.sg=u at *
 simp only[St]at e a k ⊢;cases b with
 |true=>exact⟨by simp[bR,de,e,a,cA],_,by simp[bh,fnX,cV,e,a];rfl⟩
 |false=>exact⟨by simp[bR,de,e,a,k,cA],_,by simp[bh,fnX,cV,e,a,k];rfl⟩
theorem u0(k:3≤n)(h:Iv false s f)(m:s.length < 1000)(t:f.length≤1000):Rz n "Reader.read_square_end" [.ref 0] (Sr "factor" p i w (s,f)) i:=by
 obtain⟨n,rfl⟩:=eE (n:=n) (by first|assumption|lia);have e:=eQ (g:="factor") (u:=p) (i:=i) (w:=w) (n:=n+1) (by lia) 4 (by lia) s f (gC h) m t;have x:=BP (q:="factor") (p:=p) (i:=i) (w:=w) (n:=n+1) (by lia) (fP 4 (by lia) s f h).1;rw[show((4:Nat):Int)=4 from rfl]at e;unfold Rz;rw[fR,fm];unfold Sr at e x ⊢;dsimp only at e x ⊢;generalize (ba 4 s f).2.reverse=a at *
 generalize (ba 4 s f).1.reverse.map Mk.sg=r at *
 generalize f.reverse=c at *
 generalize s.reverse.map Mk.sg=b at *
 simp only[St]at e x ⊢;exact⟨by simp[bR,dG,e,x,cA],_,by simp[bh,fnX,dq,e,x];rfl⟩
theorem yU(b:3≤n)(h:Iv false s f)(m:s.length < 1000)(t:f.length≤1000)(l:oM s=0):Rz n "Reader.read_round_end" [.ref 0] (Sr q p i w (s,f)) i:=by
 obtain⟨n,rfl⟩:=eE (n:=n) (by first|assumption|lia);have e:=eQ (g:=q) (u:=p) (i:=i) (w:=w) (n:=n+1) (by lia) 5 (by lia) s f (gC h) m t;have a:(ba 5 s f).1=[]:=by
  rcases jc 5 (by lia) (by lia) s f (gC h) with h|⟨r,_,h⟩
  .exact h.1
  .lia
 have x:=nY (g:=q) (u:=p) (i:=i) (w:=w) (p:=(ba 5 s f).2.reverse) (n:=n+1) (by lia);rw[show((5:Nat):Int)=5 from rfl]at e;unfold Rz;rw[dP,fF];unfold Sr at e ⊢;dsimp only at e ⊢;rw[a]at e;generalize (ba 5 s f).2.reverse=k at *
 generalize f.reverse=v at *
 generalize s.reverse.map Mk.sg=c at *
 simp only[St,wJ,df]at e x ⊢;exact⟨by simp[bR,cn,e,x,cA],_,by simp[bh,fnX,dC,e,x];rfl⟩
variable{q w:Str}{p:List Nat}{i:Nat}
theorem yM{n:Nat}(v:2≤n){f:List P}{s:LS}(h:p.length≤1000000)(t:i≤p.length):∃b,aF Gv Att O Rs Tb n "Reader.touches" [.ref 0] (St q p i w f s)=some (.p (.bl b),St q p i w f s):=by
 obtain⟨n,rfl⟩:=eE (n:=n) (by first|assumption|lia);rw[fQ];by_cases a:i=0
 .subst a;exact⟨false,by simp[bR,ci,St,cA]⟩
 .obtain⟨c,m⟩:∃c,p[i-1]? = some c:=⟨_,wY (by lia)⟩;have e:L2.atI p ((i:Int)-1)=some c:=cN (by lia) (by rw[show((i:Int)-1).toNat=i-1 by lia];exact m);have d:=bD h e;have r:(0:Int) < (i:Int):=by lia
  have x:0 < i:=by lia
  have k:cM (.str ("abcdefghijklmnopqrstuvwxyz":Str)) (.str ("0123456789":Str))=some (.str ("abcdefghijklmnopqrstuvwxyz"++"0123456789")):=by kernel_rfl
  have g:=λS=>db c ("abcdefghijklmnopqrstuvwxyz"++"0123456789":Str) S;exact⟨_,by simp[bR,ci,St,d,r,x,-bP,k,g,cA];rfl⟩
theorem Fi{n:Nat}(G:4≤n){c:Nat}{s:List Mk}{f:List P}(A:eO c "+-*"=false)(K:c=41->eO c "abcdefghijklmnopqrstuvwxyz"=false)(h:Iv false s f)(m:s.length < 1000)(l:f.length≤1000)(C:c=41->oM s=0)(B:i≤p.length)(g:p.length≤1000000) :
  Rz n "Reader.read_behind" [.ref 0,.p (.str ⟨#[c]⟩)] (Sr "factor" p i w (s,f)) i:=by
 obtain⟨n,rfl⟩:=eE (n:=n) (by first|assumption|lia);have e:=λS=>db c "+-*" S;rw[A]at e;have k:=λS=>db c "=!<>" S;have b:=λS=>db c "abcdefghijklmnopqrstuvwxyz" S;have R:=E2 (p:=p) (i:=i) (w:=w) (n:=n+1) (by lia) ⟨#[c]⟩ h m l;have R2:=λx=>y_ (p:=p) (i:=i) (w:=w) (n:=n+1) (by lia) x h m l λf s=>yM (by lia) g B;have H:=u0 (p:=p) (i:=i) (w:=w) (n:=n+1) (by lia) h m l;have F:=λa=>yU (q:="factor") (p:=p) (i:=i) (w:=w) (n:=n+1) (by lia) h m l a;unfold Rz;rw[cY,gY];obtain⟨y,a,D⟩:∃y,(Sr "factor" p i w (s,f))[0]? = some (.ins "Reader" RK y)/\gB "spot" RK y=qi (i:Int):=⟨_,rfl,by rw[PQ]⟩;generalize Sr "factor" p i w (s,f)=S at *
 cases E:eO c "=!<>" with
 |true=>rw[E]at k;obtain⟨r,j,t⟩:=R;exact⟨by simp[bR,aW,e,k,a,r,cA],_,by simp[bh,fnX,bc,e,k,a,t];rfl⟩
 |false=>
 rw[E]at k;cases L:eO c "abcdefghijklmnopqrstuvwxyz" with
 |true=>
  rw[L]at b;by_cases v:(⟨#[c]⟩:Str)="a"
  .obtain⟨r,j,t⟩:=R2 "and";have v:=nq v;exact⟨by simp[bR,aW,e,k,b,a,v,r,cA],_,by simp[bh,fnX,bc,e,k,b,a,v,t];rfl⟩
  .obtain⟨r,j,t⟩:=R2 "or";have v:=nr v;exact⟨by simp[bR,aW,e,k,b,a,v,r,cA],_,by simp[bh,fnX,bc,e,k,b,a,v,t];rfl⟩
 |false=>
 rw[L]at b;by_cases z:c=41
 .obtain⟨r,j,t⟩:=F (C z);have d:((⟨#[c]⟩:Str)=Str.ofString ")")=True:=by rw[En];exact nq z
  exact⟨by simp[bR,aW,e,k,b,a,d,r,cA],_,by simp[bh,fnX,bc,e,k,b,a,d,t];rfl⟩
 have d:((⟨#[c]⟩:Str)=Str.ofString ")")=False:=by rw[En];exact nr z
 by_cases o:c=93
 .obtain⟨r,j,t⟩:=H;have u:((⟨#[c]⟩:Str)=Str.ofString "]")=True:=by rw[KI];exact nq o
  exact⟨by simp[bR,aW,e,k,b,a,d,u,r,cA],_,by simp[bh,fnX,bc,e,k,b,a,d,u,t];rfl⟩
 have u:((⟨#[c]⟩:Str)=Str.ofString "]")=False:=by rw[KI];exact nr o
 exact⟨by simp[bR,aW,e,k,b,d,u,cA],_,by simp[bh,fnX,bc,e,k,b,d,u,a,D];rfl⟩
theorem EM(o:3≤n)(h:Iv false s f)(b:s.length < 1000)(d:f.length≤1000)(c:oM s≠0):Rz n "Reader.read_end" [.ref 0] (Sr "factor" p i w (s,f)) i:=by
 obtain⟨n,rfl⟩:=eE (n:=n) (by first|assumption|lia);have x:=eQ (g:="factor") (u:=p) (i:=i) (w:=w) (n:=n+1) (by lia) 4 (by lia) s f (gC h) b d;have l:=g7 4 s f;have a:=fP 4 (by lia) s f h;generalize ba 4 s f=z at *
 obtain⟨m,t⟩:=z;dsimp only at l a;have e:=eQ (g:="factor") (u:=p) (i:=i) (w:=w) (n:=n+1) (by lia) 1 (by lia) m t (gC a.1) (by lia) (by lia);obtain⟨r,v⟩:∃r,(ba 1 m t).1=.lp::r:=by
  rcases jc 1 (by lia) (by lia) m t (gC a.1) with h|⟨r,h,_⟩
  .exact absurd (a.2.symm.trans h.2) c
  .exact⟨r,h⟩
 have k:=lc (g:="factor") (u:=p) (i:=i) (w:=w) (p:=(ba 1 m t).2.reverse) (q:=r.reverse.map Mk.sg) (n:=n+1) (by lia) "(";rw[show((4:Nat):Int)=4 from rfl]at x;rw[show((1:Nat):Int)=1 from rfl]at e;unfold Rz;rw[ff,iZ];unfold Sr at x e ⊢;dsimp only at x e ⊢;rw[v]at e;simp only[mG,kf,aU,df,Mk.sg]at e;generalize (ba 1 m t).2.reverse=j at *
 generalize r.reverse.map Mk.sg=u at *
 generalize f.reverse=S at *
 generalize s.reverse.map Mk.sg=H at *
 generalize t.reverse=y at *
 generalize m.reverse.map Mk.sg=g at *
 simp only[St,kf,aU,df]at x k e ⊢;exact⟨by simp[bR,dS,x,k,e,cA],_,by simp[bh,fnX,eS,x,k,e];rfl⟩
theorem B6(c:3≤n)(h:Iv false s f)(m:s.length < 1000)(v:f.length≤1000)(l:oM s=0):∃t S,oZ t/\aF Gv Att O Rs Tb n "Reader.read_end" [.ref 0] (Sr "factor" p i w (s,f))=some (.p t,S):=by
 have a:=(fP 4 (by lia) s f h).1;have b:(ba 4 s f).1=[]:=by
  rcases jc 4 (by lia) (by lia) s f (gC h) with h|⟨r,_,h⟩
  .exact h.1
  .lia
 obtain⟨t,r,e,x⟩:=BD a;have k:=a.a;rw[b,e]at k;have q:r=[]:=gu (Nat.succ.inj k);subst q;exact⟨t,_,x,HQ c s f (gC h) m v t (Prod.ext b e)⟩
end My
namespace My
open PySem L2 Ev
variable{b:List Nat}{i:Nat}
def fg(b:List Nat):Prop:=∀c ∈ b,c < 128
inductive Out where
 |bad (k:Nat)|fin|go (k:Nat) (w:Bool) (o:Nat)
noncomputable def jA(c k:Nat):Nat:=if c=48 then 1 else min k 3
def stp(r:List Nat)(w:Bool)(o:Nat):Out:=match r with
 | []=>if w=true then .bad 0 else .fin
 |c::_=>if w=true then
   if ei c=true then (if jA c (r.takeWhile ei).length < (r.takeWhile ei).length then .bad (jA c (r.takeWhile ei).length) else .go (r.takeWhile ei).length false o)
   else if ee c=true then (if 10 < (r.takeWhile ee).length then .bad 10 else if zF (aG (r.takeWhile ee))=true then .bad (r.takeWhile ee).length else .go (r.takeWhile ee).length false o)
   else if c=40 then .go 1 true (o+1) else .bad 0
  else if EG c=true then .go 1 true o
  else if c=41/\o≠0 then .go 1 false (o-1) else .bad 0
noncomputable def Hz(c:Nat):Bool:=c == 32
def nb(r:List Nat):Nat:=(r.takeWhile Hz).length
def sk(r:List Nat):List Nat:=r.dropWhile Hz
set_option tactic.hygienic true in
theorem jW:∀{r:List Nat}{x:Nat},x ∈ r.takeWhile p->p x=true
 | [],_,h=>by cases h
 |c::r,x,h=>by
  rw[gk]at h;split at h
  .rename_i a;rcases av.mp h with rfl|h
   .exact a
   .exact jW h
  .cases h
set_option tactic.hygienic true in
theorem gF:∀{r:List Nat}{c:Nat}{t:List Nat},r.dropWhile p=c::t->p c=false
 | [],_,_,h=>by cases h
 |a::r,c,t,h=>by
  rw[List.dropWhile_cons]at h;split at h
  .exact gF h
  .rename_i x;cases h;simpa using x
theorem Hb(r:List Nat):r.takeWhile Hz=List.replicate (nb r) 32:=by
 refine List.eq_replicate_iff.mpr ⟨rfl,λb h=>?_⟩;have:=jW h
 simpa[Hz] using this
theorem tL(r:List Nat):r=List.replicate (nb r) 32++sk r:=by rw[<- Hb];exact(gv).symm
theorem tM(r:List Nat):nb r+(sk r).length=r.length:=by have:=dz eo (tL r);simp at this;lia
noncomputable def wS:Bool->Str
 |true=>"factor"
 |false=>""
theorem Ah(w:Bool)(S:aL):IJ (.p (.str (wS w))) (.p (.str "")) S=some (.bl w):=by cases w<;>kernel_rfl
variable{n:Nat}
theorem xS(t:3≤n)(a x:List Nat)(q:(a++x).length≤900)(m:fg (a++x))(w:Str)(s:List Mk×List P) :
  aF Gv Att O Rs Tb n "Reader.skip_blanks" [.ref 0] (Sr "factor" (a++x) a.length w s)=some (.p .non,Sr "factor" (a++x) (a.length+nb x) w s):=by
 have l:(a++x).length=a.length+(nb x+(sk x).length):=by rw[aN,tM]
 have e:=tL x;have h:=DT (g:="factor") (w:=w) (p:=s.2.reverse) (q:=s.1.reverse.map Mk.sg) (n:=n) t a (sk x) (nb x) (by rw[<- e];lia) (λc r k=>by have f:=gF (p:=Hz) k;have b:c < 128:=m c (by rw[e,k];simp);rw[(cX c b).2.2.1];exact f) (by lia)
 rw[<- e]at h;exact h
def IS(x:Str->GF)(h:Str->GX):EX:=cP (bS (aO (aE (aT Att) Y "spot") (U (bF (aE (aT Att) Y "text")))) bj c_) (d8 (aO (aE (aT Att) Y "spot") (U (bF (aE (aT Att) Y "text")))) (b' "NoText" "place" (vE (aE (aT Att) Y "spot"))) iU)
  (cP (bS (cf (aE (aT Att) Y "wanted") (U (vt ""))) (aQ (aB (mT Tb x) Y "read_beginning" (eD (lj (aE (aT Att) Y "text") (vE (aE (aT Att) Y "spot")))))) (aQ (aB (mT Tb x) Y "read_behind" (eD (lj (aE (aT Att) Y "text") (vE (aE (aT Att) Y "spot"))))))) (d8 (cf (aE (aT Att) Y "wanted") (U (vt ""))) (be (wT Tb h) Y "read_beginning" (eD (lj (aE (aT Att) Y "text") (vE (aE (aT Att) Y "spot"))))) (be (wT Tb h) Y "read_behind" (eD (lj (aE (aT Att) Y "text") (vE (aE (aT Att) Y "spot"))))))
  (be (wT Tb h) Y "skip_blanks" aR))
def E_:EB:=on (cf (aE (aT Att) Y "wanted") (U (vt ""))) (bV (dB (vE (aE (aT Att) Y "spot")) (bF (aE (aT Att) Y "text"))))
variable{c:Nat}
theorem kH(j:Str->GF)(l:Str->GX)(w:Bool)(m:List Mk)(t:List P)(y:i < b.length)(a:b.length≤1000000)(r:L2.atI b (i:Int)=some c)
  (h:aF Gv Att O Rs Tb n (if w=true then "Reader.read_beginning" else "Reader.read_behind") [.ref 0,.p (.str ⟨#[c]⟩)] (Sr "factor" b i (wS w) (m,t))=some (.p .non,Sr "factor" b q g k))
  (s:aF Gv Att O Rs Tb n "Reader.skip_blanks" [.ref 0] (Sr "factor" b q g k)=some (.p .non,p)) :
  aI (aF Gv Att O Rs Tb n) j l [qr 0] (Sr "factor" b i (wS w) (m,t))=some (.nx,[qr 0],p):=by
 have d:=bD a r;have f:=Ah w;have x:¬i=b.length:=by lia
 have e:¬(i:Int)=(b.length:Int):=by lia
 unfold Sr at h s ⊢;dsimp only at h s ⊢;generalize t.reverse=o at *
 generalize m.reverse.map Mk.sg=z at *
 generalize k.2.reverse=u at *
 generalize k.1.reverse.map Mk.sg=v at *
 simp only[St]at h s ⊢;cases w with
 |true=>simp only[eG]at h;simp[aI,bE,bX,a,x,e,f,d,h,s]
 |false=>simp only[fj,gW]at h;simp[aI,bE,bX,a,x,e,f,d,h,s]
def Bz(n:Nat)(x:Str->GF)(S:aL)(p:Nat):Prop:=(∀a,aI (aF Gv Att O Rs Tb n) x a [qr 0] S=none)/\∃L h,IS (aF Gv Att O Rs Tb n) (cO Gv Att O Rs Tb n) [qr 0] S=some ((("NoText":Str),some (("place":Str),P.int (p:Int))),L,h)
theorem kI(q:Str->GF)(w:Bool)(m:List Mk)(t:List P)(u:i < b.length)(h:b.length≤1000000)(f:L2.atI b (i:Int)=some c)
  (a:Rz n (if w=true then "Reader.read_beginning" else "Reader.read_behind") [.ref 0,.p (.str ⟨#[c]⟩)] (Sr "factor" b i (wS w) (m,t)) p):Bz n q (Sr "factor" b i (wS w) (m,t)) p:=by
 have d:=bD h f;have k:=Ah w;have x:¬i=b.length:=by lia
 have e:¬(i:Int)=(b.length:Int):=by lia
 obtain⟨r,S,s⟩:=a;unfold Bz;unfold Sr at r s ⊢;dsimp only at r s ⊢;generalize t.reverse=j at *
 generalize m.reverse.map Mk.sg=g at *
 simp only[St]at r s ⊢;cases w with
 |true=>simp only[eG]at r s;exact⟨λv=>by simp[aI,bE,bX,h,x,e,k,d,r],_,_,by simp[IS,bE,bX,h,x,e,k,d,r,s];exact⟨rfl,rfl⟩⟩
 |false=>simp only[fj,gW]at r s;exact⟨λv=>by simp[aI,bE,bX,h,x,e,k,d,r],_,_,by simp[IS,bE,bX,h,x,e,k,d,r,s];exact⟨rfl,rfl⟩⟩
theorem Cp(x:Str->GF)(w:Str)(s:List Mk×List P)(h:b.length≤1000000):Bz n x (Sr "factor" b b.length w s) b.length:=by
 unfold Bz Sr;generalize s.2.reverse=t at *
 generalize s.1.reverse.map Mk.sg=r at *
 simp only[St];exact⟨λa=>by simp[aI,bE,bX,h],_,_,by simp[IS,bE,bX,h];exact⟨rfl,rfl⟩⟩
theorem Ia:∀x < 10,(kT (aG [48+x])).isSome=true:=by decide +kernel
theorem H_:∀x < 10,∀y < 10,(kT (aG [48+x,48+y])).isSome=true:=by decide +kernel
theorem H0:∀x < 10,∀y < 10,∀z < 10,(kT (aG [48+x,48+y,48+z])).isSome=true:=by decide +kernel
theorem j5(h:ei c=true):∃x,x < 10/\c=48+x:=by simp only[ei,aC,jF]at h;exact⟨c-48,by lia,by lia⟩
theorem EQ{run:List Nat}(F:∀c ∈ run,ei c=true)(f:run≠[])(m:run.length≤3):∃z,eI [.str (aG run)]=some (.int z):=by
 have k:(kT (aG run)).isSome=true:=by
  match run,F,f,m with
  | [a],F,_,_=>obtain⟨x,e,rfl⟩:=j5 (F a (by simp));exact Ia x e
  | [a,b],F,_,_=>obtain⟨x,e,rfl⟩:=j5 (F a (by simp));obtain⟨y,s,rfl⟩:=j5 (F b (by simp));exact H_ x e y s
  | [a,b,c],F,_,_=>obtain⟨x,e,rfl⟩:=j5 (F a (by simp));obtain⟨y,s,rfl⟩:=j5 (F b (by simp));obtain⟨z,n,rfl⟩:=j5 (F c (by simp));exact H0 x e y s z n
  |_::_::_::_::_,_,_,h=>simp at h
  | [],_,h,_=>exact absurd rfl h
 obtain⟨z,n⟩:=wD.mp k;refine⟨z,?_⟩;unfold eI;dsimp only;rw[ai (by rw[du];lia),n];rfl
def CB(a:List Nat):Prop:=∀c,a.getLast? = some c->(ee c ||ei c)=false
variable{a:List Nat}
theorem D8(h:CB a)(e:fg (a++x)):a.length=0\/∃c,L2.atI (a++x) ((a.length:Int)-1)=some c/\eO c ("abcdefghijklmnopqrstuvwxyz"++"0123456789")=false:=by
 rcases List.eq_nil_or_concat a with rfl|⟨p,c,rfl⟩
 .exact .inl rfl
 .refine .inr ⟨c,cN (by simp) ?_,?_⟩
  .simp
  .rw [(cX c (e c (by simp))).2.2.2.2.2];exact h c (by simp)
def FS(n:Nat)(e:Str->GF)(a r:List Nat)(w:Bool)(s:List Mk)(x:List P):Out->Prop
 | .bad k=>Bz n e (Sr "factor" (a++r) a.length (wS w) (s,x)) (a.length+k)
 | .fin=>r=[]/\w=false
 | .go k h o=>1≤k/\k≤r.length/\∃m t,(∀f,aI (aF Gv Att O Rs Tb n) e f [qr 0] (Sr "factor" (a++r) a.length (wS w) (s,x))=some (.nx,[qr 0],Sr "factor" (a++r) (a.length+k+nb (r.drop k)) (wS h) (m,t))) /\
   Iv h m t/\oM m=o/\m.length≤a.length+k/\t.length≤a.length+k/\(h=true->CB (a++r.take k++List.replicate (nb (r.drop k)) 32))
theorem BI(h:EG c=true):∃m:Mk,m.lvl≠0/\m.ch=c:=by
 simp only[EG,jp,jU]at h;rcases h with (rfl|rfl)|rfl
 .exact⟨.pl,by decide,rfl⟩
 .exact⟨.mi,by decide,rfl⟩
 .exact⟨.ti,by decide,rfl⟩
variable{r:List Nat}
theorem tz(x:(ee c ||ei c)=false):CB (a++(c::r).take 1++List.replicate (nb ((c::r).drop 1)) 32):=by
 intro d h;cases n:nb ((c::r).drop 1) with
 |zero=>rw[n]at h;simp at h;rw[<- h];exact x
 |succ k=>rw[n,wR,<- di,List.getLast?_concat]at h;cases h;rfl
theorem D2(hn:6≤n)(C:Str->GF)(hc:(a++r).length≤900)(ha:fg (a++r))(I:Iv w f v)(hm:f.length≤a.length)(W:v.length≤a.length)(hpre:w=true->CB a) :
  FS n C a r w f v (stp r w (oM f)):=by
 have M:∀(k:Nat)(w':Str)(s:List Mk×List P),k≤r.length->aF Gv Att O Rs Tb n "Reader.skip_blanks" [.ref 0] (Sr "factor" (a++r) (a.length+k) w' s)=some (.p .non,Sr "factor" (a++r) (a.length+k+nb (r.drop k)) w' s):=λk w' s hk=>by
  have e:a++r.take k++r.drop k=a++r:=by rw[di,mJ]
  have h:=xS (n:=n) (by lia) (a++r.take k) (r.drop k) (by rw[e];exact hc) (by rw[e];exact ha) w' s;rw[e,aN,cG,mO hk]at h;exact h
 have hcl:a.length+r.length≤900:=by rw[<- aN];exact hc
 cases r with
 |nil=>
  cases w with
  |true=>show Bz n C (Sr "factor" (a++[]) a.length (wS true) (f,v)) (a.length+0);rw[dZ];exact Cp C _ _ (by lia)
  |false=>exact⟨rfl,rfl⟩
 |cons c t=>
  have q:L2.atI (a++c::t) (a.length:Int)=some c:=cx a c t;have j:a.length < (a++c::t).length:=by simp
  have p:(a++c::t).length≤1000000:=by lia
  have hc128:c < 128:=ha c (by simp);obtain⟨i1,i2,i3,i4,_,_⟩:=cX c hc128;have H:(c::t).length=t.length+1:=rfl;cases w with
  |true=>
   have hiv:=I.a;simp only[eG]at hiv;unfold stp;dsimp only;rw[ai rfl];by_cases hF:ei c=true
   .rw [ai hF];have o:(c::t).takeWhile ei++(c::t).dropWhile ei=c::t:=gv;have h0:((c::t).takeWhile ei)[0]? = some c:=by rw[gk,ai hF];rfl
    have l:∀x ∈ (c::t).takeWhile ei,ei x=true:=λx q=>jW q;have g:∀x ∈ (c::t).takeWhile ei,x < 128:=λx q=>ha x (b_ _ (by rw[<- o];exact gm _ q));have D:∀x ∈ (c::t).takeWhile ei,eO x "0123456789"=true:=λx q=>by rw[(cX x (g x q)).1];exact l x q
    have L:∀d u,(c::t).dropWhile ei=d::u->eO d "0123456789"=false:=λd u e=>by rw[(cX d (ha d (b_ _ (by rw[<- o,e];simp)))).1];exact gF e
    have B:(c::t).takeWhile ei≠[]:=λe=>by rw[e]at h0;cases h0
    have hrl:((c::t).takeWhile ei).length≤(c::t).length:=by have:=dz eo o;rw[aN]at this;lia
    have hpb:=D8 (hpre rfl) ha;generalize (c::t).dropWhile ei=F at *
    generalize hrun:(c::t).takeWhile ei=run at *
    rw[<- o]at hpb q j p ⊢;by_cases E:jA c run.length < run.length
    .rw [ai E];have Z:=Eo (q:="factor") (w:=wS true) (n:=n-1) (by lia) (s:=f) (f:=v) a run F h0 rfl E D p L (by lia) hpb;exact kI C true f v j p q (Il (by lia) (JT ..) (by rw[i1];exact hF) Z)
    .rw [ar E];have A:1≤run.length:=kh.mpr B;have G:run.length≤3:=by unfold jA at E;split at E<;>lia
     have hz:run[0]? = some 48->run.length=1:=λe=>by rw[h0]at e;cases e;unfold jA at E;rw[ai rfl]at E;lia
     obtain⟨z,hv⟩:=EQ l B G;have hN:Num z run:=⟨B,G,D,λx q=>by rw[(cX x (g x q)).2.2.1];obtain⟨y,hy,rfl⟩:=j5 (l x q);exact ls.mpr (by lia),hz,hv⟩
     have Z:=G' (g:="factor") (w:=wS true) (n:=n-1) (by lia) (q:=f) (p:=v) z a run F hN p L (by lia) hpb;have N:=Fj (n:=n) (by lia) (by rw[i1];exact hF) ⟨_,_,rfl,rfl⟩ Z;have e3:=M run.length "" (f,.tup [.str "number",.int z]::v) hrl;rw[<- o]at e3;refine⟨A,by rw[aN];lia,f,.tup [.str "number",.int z]::v,λV=>kH C V true f v j p q (by rw[ai rfl];exact N) e3,⟨by simp;lia,λt W=>?_⟩,rfl,by lia,by simp;lia,λz=>nomatch z⟩;rcases av.mp W with rfl|W
     .exact AA z
     .exact I.b t W
   .rw [ar hF];have hF':ei c=false:=by simpa using hF
    by_cases hL:ee c=true
    .rw [ai hL];have o:(c::t).takeWhile ee++(c::t).dropWhile ee=c::t:=gv;have h0:c ∈ (c::t).takeWhile ee:=by rw[gk,ai hL];exact aZ
     have l:∀x ∈ (c::t).takeWhile ee,ee x=true:=λx q=>jW q;have g:∀x ∈ (c::t).takeWhile ee,x < 128:=λx q=>ha x (b_ _ (by rw[<- o];exact gm _ q));have D:∀x ∈ (c::t).takeWhile ee,eO x "abcdefghijklmnopqrstuvwxyz"=true:=λx q=>by rw[(cX x (g x q)).2.1];exact l x q
     have L:∀d u,(c::t).dropWhile ee=d::u->eO d "abcdefghijklmnopqrstuvwxyz"=false:=λd u e=>by rw[(cX d (ha d (b_ _ (by rw[<- o,e];simp)))).2.1];exact gF e
     have B:(c::t).takeWhile ee≠[]:=λe=>by rw[e]at h0;cases h0
     have hrl:((c::t).takeWhile ee).length≤(c::t).length:=by have:=dz eo o;rw[aN]at this;lia
     generalize (c::t).dropWhile ee=F at *
     generalize hrun:(c::t).takeWhile ee=run at *
     rw[<- o]at q j p ⊢;have bad:∀k,(10 < run.length/\k=10\/run.length≤10/\zF (aG run)=true/\k=run.length)->FS n C a (run++F) true f v (.bad k):=λk hk=>by have Z:=Eu (q:="factor") (n:=n-1) (by lia) (s:=f) (f:=v) a run F g hk D p L (by lia);exact kI C true f v j p q (Im (by lia) (JT ..) (by rw[i1];exact hF') (by rw[i2];exact hL) Z)
     by_cases E:10 < run.length
     .rw [ai E];exact bad 10 (.inl ⟨E,rfl⟩)
     .rw [ar E];by_cases hw:zF (aG run)=true
      .rw [ai hw];exact bad _ (.inr ⟨by lia,hw,rfl⟩)
      .rw [ar hw];have A:1≤run.length:=kh.mpr B;have hN:Nam run:=⟨fun x q=>by have:=g x q;lia,B,by lia,D,fun x q=>by
        rw[(cX x (g x q)).1];have:=l x q
        simp only[ee,ei,aC,jF]at this ⊢;simp;lia,λx q=>by
        rw[(cX x (g x q)).2.2.1];have:=l x q
        simp only[ee,aC,jF]at this;exact ls.mpr (by lia),λS=>by rw[BS (kY g)];simp[hw]⟩
       have Z:=Hj (q:="factor") (n:=n-1) (by lia) (s:=f) (f:=v) a run F hN p L (by lia);have N:=Fk (n:=n) (by lia) (by rw[i1];exact hF') (by rw[i2];exact hL) ⟨_,_,rfl,rfl⟩ Z;have e3:=M run.length "" (f,.tup [.str "name",.str (aG run)]::v) hrl;rw[<- o]at e3;refine⟨A,by rw[aN];lia,f,.tup [.str "name",.str (aG run)]::v,λV=>kH C V true f v j p q (by rw[ai rfl];exact N) e3,⟨by simp;lia,λt W=>?_⟩,rfl,by lia,by simp;lia,λz=>nomatch z⟩;rcases av.mp W with rfl|W
       .exact AB _
       .exact I.b t W
    .rw [ar hL];have hL':ee c=false:=by simpa using hL
     by_cases Q:c=40
     .rw [ai Q];subst Q;have N:=Io (q:="factor") (p:=a++40::t) (i:=a.length) (w:=wS true) (n:=n) (by lia) f v (by lia);refine⟨aw _,by rw[H];lia,.lp::f,v,λV=>kH C V true f v j p q (by rw[ai rfl];exact N) (M 1 "factor" (.lp::f,v) (by rw[H];lia)),⟨by simpa[fJ] using hiv,I.b⟩,rfl,by simp;lia,by lia,λ_=>tz (by decide)⟩
     .rw [ar Q];exact kI C true f v j p q (Fm (by lia) (by rw[i1];exact hF') (by rw[i2];exact hL') Q)
  |false=>
   unfold stp;dsimp only;rw[ar (by decide)];by_cases hO:EG c=true
   .rw [ai hO];obtain⟨m,T,rfl⟩:=BI hO;obtain⟨X,K,rfl,hst⟩:=BD I;have N:=Ik (q:="factor") (p:=a++m.ch::t) (i:=a.length) (w:=wS false) (n:=n) (by lia) T f X K hst (gC I) (by lia) (by lia);have fi:=fP m.lvl (by lia) f (X::K) I;have fl:=g7 m.lvl f (X::K);have R:=fi.1.a;have ho:∀r,fJ (m::r)=fJ r+1:=λr=>by cases m<;>first|rfl|exact absurd rfl T
    refine⟨aw _,by rw[H];lia,m::(ba m.lvl f (X::K)).1,(ba m.lvl f (X::K)).2,λV=>kH C V false f (X::K) j p q (by rw[ar (by decide)];exact N) (M 1 "factor" (m::(ba m.lvl f (X::K)).1,(ba m.lvl f (X::K)).2) (by rw[H];lia)),⟨by rw[ho];simpa using R,fi.1.b⟩,by rw[vd T];exact fi.2,by rw[aS];lia,by lia,λ_=>tz (by cases m<;>first|rfl|exact absurd rfl T)⟩
   .rw [ar hO];have hO':EG c=false:=by simpa using hO
    by_cases hr:c=41/\oM f≠0
    .rw [ai hr];obtain⟨rfl,ho⟩:=hr;have fi:=fP 5 (by lia) f v I;have fl:=g7 5 f v;obtain⟨r,h1,h2⟩:∃r,(ba 5 f v).1=.lp::r/\oM f=oM r+1:=by
      rcases jc 5 (by lia) (by lia) f v (gC I) with h|h
      .exact absurd h.2 ho
      .exact h
     have N:=Ij (q:="factor") (p:=a++41::t) (i:=a.length) (w:=wS false) (n:=n) (by lia) f v (gC I) (by lia) (by lia) r (ba 5 f v).2 (Prod.ext h1 rfl);have R:=fi.1.a;rw[h1]at R fl;rw[aS]at fl;refine⟨aw _,by rw[H];lia,r,(ba 5 f v).2,λV=>kH C V false f v j p q (by rw[ar (by decide)];exact N) (M 1 (wS false) (r,(ba 5 f v).2) (by rw[H];lia)),⟨R,fi.1.b⟩,by lia,by lia,by lia,λz=>nomatch z⟩
    .rw [ar hr];refine kI C false f v j p q (Fi (by lia) (by rw[i4];exact hO') (λe=>by rw[i2,e];rfl) I (by lia) (by lia) (λe=>?_) (by lia) p);exact Decidable.byContradiction λh=>hr ⟨e,h⟩
def oK:Nat->Nat->List Nat->Bool->Nat->Sum Nat Nat
 |0,i,_,_,_=>.inl i
 |f+1,i,r,w,o=>match stp r w o with
  | .bad k=>.inl (i+k)
  | .fin=>.inr o
  | .go k x h=>oK f (i+k+nb (r.drop k)) (sk (r.drop k)) x h
variable{b:List Nat}
theorem Lh(w:Bool)(s:List Mk×List P)(h:b.length≤1000000):E_ [qr 0] (Sr "factor" b i (wS w) s)=some (w ||decide (i < b.length),Sr "factor" b i (wS w) s):=by
 have x:=Ah w;unfold Sr;generalize s.2.reverse=t at *
 generalize s.1.reverse.map Mk.sg=r at *
 simp only[St];cases w with
 |true=>simp[E_,x]
 |false=>simp[E_,x,bE,bX,h]
theorem yh(k:Nat):a++r.take k++List.replicate (nb (r.drop k)) 32++sk (r.drop k)=a++r:=by rw[di,<- tL,di,mJ]
theorem xU(G:6≤n)(H:Str->GF):∀(f:Nat)(a r:List Nat)(w:Bool)(v:List Mk)(u:List P),r.length < f->(a++r).length≤900->fg (a++r)->Iv w v u->v.length≤a.length->u.length≤a.length->(w=true->CB a) ->
  match oK f a.length r w (oM v) with
  | .inl p=>(∀s,aV E_ (aI (aF Gv Att O Rs Tb n) H s) f [qr 0] (Sr "factor" (a++r) a.length (wS w) (v,u))=none)/\∀s,∃L S,cL E_ (aI (aF Gv Att O Rs Tb n) H s) (IS (aF Gv Att O Rs Tb n) (cO Gv Att O Rs Tb n)) f [qr 0] (Sr "factor" (a++r) a.length (wS w) (v,u))=some ((("NoText":Str),some (("place":Str),P.int (p:Int))),L,S)
  | .inr o=>∃m q,(∀s,aV E_ (aI (aF Gv Att O Rs Tb n) H s) f [qr 0] (Sr "factor" (a++r) a.length (wS w) (v,u))=some (.nx,[qr 0],Sr "factor" (a++r) (a++r).length (wS false) (m,q)))/\Iv false m q/\oM m=o/\m.length≤900/\q.length≤900
 |0,_,r,_,_,_,h,_,_,_,_,_,_=>absurd h (ki _)
 |f+1,a,r,w,v,u,hf,E,D,C,N,V,T=>by
  have g:=D2 G H E D C N V T;have d:=Lh (b:=a++r) (i:=a.length) w (v,u) (by lia);have hl:(a++r).length=a.length+r.length:=aN;unfold oK;generalize X:stp r w (oM v)=x at g;have j:(w ||decide (a.length < (a++r).length))=true\/x=.fin:=by
   cases w with
   |true=>exact .inl rfl
   |false=>
    cases r with
    |nil=>exact .inr X.symm
    |cons c t=>exact .inl (by rw[qv];exact fE (by simp))
  cases x with
  |bad k=>
   rw[j.resolve_right (λz=>nomatch z)]at d;exact⟨λs=>uO d (g.1 s),λs=>by obtain⟨L,S,h⟩:=g.2;exact⟨L,S,(z7 d (g.1 s)).trans h⟩⟩
  |fin=>obtain⟨rfl,rfl⟩:=g;rw[dZ]at d ⊢;rw[show(false ||decide (a.length < a.length))=false by simp]at d;exact⟨v,u,λs=>bu d,C,rfl,by lia,by lia⟩
  |go k M o'=>
   rw[j.resolve_right (λz=>nomatch z)]at d;obtain⟨h1,h2,m,q,F,I,R,Q,W,A⟩:=g;have e:=yh (a:=a) (r:=r) k;have K:(a++r.take k++List.replicate (nb (r.drop k)) 32).length=a.length+k+nb (r.drop k):=by simp only[aN,cG,gn];lia
   have B:=tM (r.drop k);rw[eL]at B;have l:=xU G H f (a++r.take k++List.replicate (nb (r.drop k)) 32) (sk (r.drop k)) M m q (by lia) (by rw[e];exact E) (by rw[e];exact D) I (by lia) (by lia) A;rw[e,K,R]at l;dsimp only;generalize oK f (a.length+k+nb (r.drop k)) (sk (r.drop k)) M o'=y at l ⊢;cases y with
   |inl p=>exact⟨λs=>(cW d (F s)).trans (l.1 s),λs=>by obtain⟨L,S,h⟩:=l.2 s;exact⟨L,S,(yG d (F s)).trans h⟩⟩
   |inr o=>obtain⟨Z,t2,h,r1⟩:=l;exact⟨Z,t2,λs=>(cW d (F s)).trans (h s),r1⟩
def uQ(b:List Nat):Option Nat:=match oK 1000 (nb b) (sk b) true 0 with
 | .inl p=>some p
 | .inr 0=>none
 | .inr _=>some b.length
theorem nv(x a:Str->GF)(h:Str->GX):g0 x a h=cP (aQ (aB (mT Tb x) Y "skip_blanks" aR)) (be (wT Tb h) Y "skip_blanks" aR) (cP (aV E_ (aI x a h) 1000) (cL E_ (aI x a h) (IS x h) 1000) (be (wT Tb h) Y "read_end" aR)):=rfl
theorem lm(h x:Str->GF)(a:Str->GX):iK h x a=aj (aQ (aB (mT Tb h) Y "skip_blanks" aR)) (aj (aV E_ (aI h x a) 1000) (bw (aB (mT Tb h) Y "read_end" aR))):=rfl
theorem D1(G:8≤n)(j:b.length≤900)(g:fg b):match uQ b with
  |some p=>Rz n "Reader.read" [.ref 0] (St "factor" b 0 "factor" [] []) p
  |none=>∃t S,oZ t/\aF Gv Att O Rs Tb n "Reader.read" [.ref 0] (St "factor" b 0 "factor" [] [])=some (.p t,S):=by
 obtain⟨n,rfl⟩:=eE (n:=n) (by first|assumption|lia);have k:=xS (n:=n+1) (by lia) [] b j g "factor" ([],[]);have s:=tL b;have A:=tM b;have l:=xU (n:=n+1) (by lia) (aF Gv Att O Rs Tb n) 1000 (List.replicate (nb b) 32) (sk b) true [] [] (by lia) (by rw[<- s];exact j) (by rw[<- s];exact g) ⟨rfl,λ_ h=>nomatch h⟩ (by simp) (by simp) (λ_ c P=>by have:=List.mem_of_getLast? P;rw[(mH.mp this).2];rfl)
 rw[<- s,gn]at l;simp only[cT,dh,qS]at k;unfold uQ;change match oK 1000 (nb b) (sk b) true 0 with | .inl p=>_ | .inr o=>_ at l
 generalize oK 1000 (nb b) (sk b) true 0=y at l ⊢;have q:St "factor" b 0 "factor" [] []=Sr "factor" b 0 "factor" ([],[]):=rfl;rw[q];cases y with
 |inl p=>
  obtain⟨x,r⟩:=l;obtain⟨L,S,r⟩:=r (cO Gv Att O Rs Tb (n+1));have x:=x (cO Gv Att O Rs Tb (n+1));unfold Rz;rw[e7,gZ,lm,nv];obtain⟨H,f⟩:=JT "factor" b 0 "factor" ([],[]);change aV _ _ _ _ (Sr "factor" b (nb b) "factor" ([],[]))=_ at x;change cL _ _ _ _ _ (Sr "factor" b (nb b) "factor" ([],[]))=_ at r;generalize Sr "factor" b (nb b) "factor" ([],[])=u at *
  generalize Sr "factor" b 0 "factor" ([],[])=d at *
  exact⟨by simp[bR,f,k,x,cA],_,by simp[bh,fnX,f,k,x,r];rfl⟩
 |inr o=>
  obtain⟨m,e,x,I,B,E,M⟩:=l;have x:=x (cO Gv Att O Rs Tb (n+1));obtain⟨H,f⟩:=JT "factor" b 0 "factor" ([],[]);obtain⟨F,a⟩:=JT "factor" b b.length (wS false) (m,e);change aV _ _ _ _ (Sr "factor" b (nb b) "factor" ([],[]))=_ at x;cases o with
  |zero=>
   obtain⟨t,S,v,K⟩:=B6 (p:=b) (i:=b.length) (w:=wS false) (n:=n+1) (by lia) I (by lia) (by lia) B;refine⟨t,S,v,?_⟩;rw[e7,lm];generalize Sr "factor" b (nb b) "factor" ([],[])=u at *
   generalize Sr "factor" b 0 "factor" ([],[])=d at *
   generalize Sr "factor" b b.length (wS false) (m,e)=z at *
   simp[bR,f,k,x,a,K,cA]
  |succ o=>
   obtain⟨C,S,D⟩:=EM (p:=b) (i:=b.length) (w:=wS false) (n:=n+1) (by lia) I (by lia) (by lia) (by lia);show Rz _ _ _ _ b.length;unfold Rz;rw[e7,gZ,lm,nv];generalize Sr "factor" b (nb b) "factor" ([],[])=u at *
   generalize Sr "factor" b 0 "factor" ([],[])=d at *
   generalize Sr "factor" b b.length (wS false) (m,e)=z at *
   exact⟨by simp[bR,f,k,x,a,C,cA],_,by simp[bh,fnX,f,k,x,a,D];rfl⟩
theorem Ay(m:10≤n)(c:b.length≤900)(s:fg b):match uQ b with
  |some p=>Rz n "read_sum" [.p (.str (aG b))] [] p
  |none=>∃x h,aF Gv Att O Rs Tb n "read_sum" [.p (.str (aG b))] []=some (.p (.tup x),h):=by
 obtain⟨n,rfl⟩:=Qa (n:=n) (by first|assumption|lia);have e:=D1 (n:=n+3) (by lia) c s;have i:aF Gv Att O Rs Tb (n+2) "Reader.__init__" [.ref 0,.p (.str (aG b)),.p (.str "factor")] [.ins "Reader" [] []]=some (.p .non,St "factor" b 0 "factor" [] []):=by rw[lN];simp[bR,iN,St,cA,RK,Ev.putK,oH]
 generalize uQ b=v at e ⊢;obtain⟨d,a⟩:∃d,(St "factor" b 0 "factor" [] [])[0]? = some (.ins "Reader" RK d):=⟨_,rfl⟩;generalize St "factor" b 0 "factor" [] []=S at *
 cases v with
 |some p=>obtain⟨r,h,f⟩:=e;show Rz _ _ _ _ _;unfold Rz;rw[kA,oz];exact⟨by simp[bR,iz,i,a,r,cA],_,by simp[bh,fnX,jG,i,a,f];rfl⟩
 |none=>obtain⟨t,h,⟨k,x,rfl,_⟩,r⟩:=e;refine⟨.str k::x,h,?_⟩;rw[kA];simp[bR,iz,i,a,r,cA]
end My
namespace My
open PySem L2 Ev
variable{q:List Nat}
theorem x6(j a:Str->GF)(v:Str->GX)(n:q.length≤1000000){i:Int}:∀(run s p:List Nat)(f:Nat),q=s++(run++p)->(∀c ∈ run,eO c "abcdefghijklmnopqrstuvwxyz"=true)->(∀c r,p=c::r->eO c "abcdefghijklmnopqrstuvwxyz"=false)->run.length < f ->
  aV (cE (bV (dB kR (bF Y))) (bV (cc gE (U (aY cU kR)) (U (vt "abcdefghijklmnopqrstuvwxyz"))))) (fY j a v) f
   [qs (aG q),qi i,qi (s.length:Int)] []=some (.nx,[qs (aG q),qi i,qi ((s.length+run.length:Nat):Int)],[])
 |run,s,p,0,_,_,_,h=>by lia
 | [],s,p,f+1,k,_,u,_=>by
  cases p with
  |nil=>
   have m:q.length=s.length:=by rw[k];simp
   have b:s.length≤1000000:=by lia
   rw[bu (h:=[]) (by simp[bE,bX,n,m,b])];simp
  |cons c r=>
   have m:s.length < q.length:=by rw[k];simp
   have l:(s.length:Int) < (q.length:Int):=by lia
   have t:L2.atI q (s.length:Int)=some c:=by rw[k];exact cx s c r
   have d:=bD n t;have w:=u c r rfl;rw[bu (h:=[]) (by simp[bE,bX,n,m,l,d,db,w])];simp
 |c::run,s,p,f+1,k,g,u,y=>by
  have e:=x6 j a v (i:=i) n run (s++[c]) p f (by rw[k];simp) (λx t=>g x (a_ _ t)) u (by simp at y;lia);have m:s.length < q.length:=by rw[k];simp
  have l:(s.length:Int) < (q.length:Int):=by lia
  have t:L2.atI q (s.length:Int)=some c:=by rw[k];exact cx s c _
  have d:=bD n t;have w:=g c aZ;rw[cW (h:=[]) (L2:=[qs (aG q),qi i,qi ((s++[c]).length:Int)]) (x:=[]) (by simp[bE,bX,n,m,l,d,db,w]) (by simp[fY])];rw[e];simp;lia
variable{n:Nat}
theorem Et(v:2≤n)(s r:List Nat)(m:(s++r).length≤900)(f:fg (s++r)):jH (aF Gv Att O Rs Tb n "_law_run") [.str (aG (s++r)),.int (s.length:Int)]=some (.str (aG (r.takeWhile ee))):=by
 obtain⟨n,rfl⟩:=eE (n:=n) (by first|assumption|lia);have h:r.takeWhile ee++r.dropWhile ee=r:=gv;have a:∀x ∈ r.takeWhile ee,eO x "abcdefghijklmnopqrstuvwxyz"=true:=λx b=>by rw[(cX x (f x (b_ _ (by rw[<- h];exact gm _ b)))).2.1];exact jW b
 have p:∀d u,r.dropWhile ee=d::u->eO d "abcdefghijklmnopqrstuvwxyz"=false:=λd u e=>by rw[(cX d (f d (b_ _ (by rw[<- h,e];simp)))).2.1];exact gF e
 have l:(r.takeWhile ee).length≤r.length:=by have:=dz eo h;rw[aN]at this;lia
 rw[aN]at m;have e:=x6 (aF Gv Att O Rs Tb (n+1)) (aF Gv Att O Rs Tb n) (cO Gv Att O Rs Tb (n+1)) (q:=s++r) (i:=(s.length:Int)) (by rw[aN];lia) (r.takeWhile ee) s (r.dropWhile ee) 1000 (by rw[h]) a p (by lia);have k:=o8 s (r.takeWhile ee) (r.dropWhile ee);rw[h]at k;have c:(s++r).length≤1000000:=by rw[aN];lia
 generalize r.takeWhile ee=run at *
 generalize s++r=q at *
 have t:g9 (.str (aG q)) (some (s.length:Int)) (some ((s.length+run.length:Nat):Int))=some (.str (aG run)):=by simp only[g9,du];rw[ai (by rw[gG];exact c),k]
 rw[ud,cb];simp only[lH,dR,aj,aP,bw,U,gL,vE,bI,yg,aS,dh,aU,df,hZ,cT,mN,List.replicate,mM,eG,hB,wN,wO,e,Ar,wW,wX,t,kc]
theorem FN(A a:Str->GF)(v:Str->GX){q:List Nat}(p:q.length≤1000000){i H:Nat}{w:Option D}{S:aL}{u:D}(y:L2.atI q (i:Int)=some H)(k:H≠48):∀(run s o:List Nat)(f:Nat),q=s++(run++o)->(∀c ∈ run,eO c "0123456789"=true)->(∀c r,o=c::r->eO c "0123456789"=false\/s.length+run.length=i+3)->s.length+run.length≤i+3->run.length < f ->
  aV (cE (cf (U (aY cU cJ)) (U (vt "0"))) (cE (bV (dB iY (ck fX (v2 (bF Y) (ag cJ uL))))) (bV (cc gE (U (aY cU iY)) (U (vt "0123456789")))))) (cZ A a v) f
   [qs (aG q),qi (i:Int),some u,qi (s.length:Int),w] S=some (.nx,[qs (aG q),qi (i:Int),some u,qi ((s.length+run.length:Nat):Int),w],S)
 |run,s,o,0,_,_,_,_,h=>by lia
 | [],s,o,f+1,n,_,z,F,_=>by
  have d:=bD p y;have m:fX [.int (q.length:Int),.int ((i:Int)+3)]=some (.int (if (i:Int)+3 < (q.length:Int) then (i:Int)+3 else (q.length:Int))):=rfl;cases o with
  |nil=>
   have K:q.length=s.length:=by rw[n];simp
   have g:s.length≤1000000:=by lia
   have l:¬(s.length:Int) < (if (i:Int)+3 < (q.length:Int) then (i:Int)+3 else (q.length:Int)):=by split<;>lia
   rw[bu (h:=S) (by simp[bE,bX,p,d,CI,k,m,l])];simp
  |cons c r=>
   have K:s.length < q.length:=by rw[n];simp
   have t:L2.atI q (s.length:Int)=some c:=by rw[n];exact cx s c r
   have j:=bD p t;rcases z c r rfl with b|b
   .by_cases l:(s.length:Int) < (if (i:Int)+3 < (q.length:Int) then (i:Int)+3 else (q.length:Int))
    .rw [bu (h:=S) (by simp[bE,bX,p,d,CI,k,m,l,j,db,b])];simp
    .rw [bu (h:=S) (by simp[bE,bX,p,d,CI,k,m,l])];simp
   .have l:¬(s.length:Int) < (if (i:Int)+3 < (q.length:Int) then (i:Int)+3 else (q.length:Int)):=by simp at b;split<;>lia
    rw[bu (h:=S) (by simp[bE,bX,p,d,CI,k,m,l])];simp
 |c::run,s,o,f+1,n,P,z,F,C=>by
  have d:=bD p y;have m:fX [.int (q.length:Int),.int ((i:Int)+3)]=some (.int (if (i:Int)+3 < (q.length:Int) then (i:Int)+3 else (q.length:Int))):=rfl;rw [aS] at F;have e:=FN A a v (w:=w) (S:=S) (u:=u) p y k run (s++[c]) o f (by rw [n];simp) (fun x t=>P x (a_ _ t)) (fun B E h=>by
   have:=z B E h;simp only[aN,aS,dh]at this ⊢;rcases this with h|h
   .exact .inl h
   .exact .inr (by lia)) (by simp;lia) (by simp at C;lia)
  have K:s.length < q.length:=by rw[n];simp
  have l:(s.length:Int) < (if (i:Int)+3 < (q.length:Int) then (i:Int)+3 else (q.length:Int)):=by split<;>lia
  have t:L2.atI q (s.length:Int)=some c:=by rw[n];exact cx s c _
  have j:=bD p t;have b:=P c aZ;rw[cW (h:=S) (L2:=[qs (aG q),qi (i:Int),some u,qi ((s++[c]).length:Int),w]) (x:=S) (by simp[bE,bX,p,d,CI,k,m,l,j,db,b]) (by simp[cZ])];rw[e];simp;lia
noncomputable def gU(o:Nat):aL:=[.lst ((List.replicate o (P.str "(")).map .p)]
noncomputable def jz(st:Str)(j:Nat)(b:Bool):P:=.tup [.str st,.int (j:Int),.bl b]
section
variable{n:Nat}{s t:List Nat}{c o:Nat}
theorem GZ(a:2≤n)(c:(s++40::t).length≤900)(e:o≤900):aF Gv Att O Rs Tb n "_law_operand" [.p (.str (aG (s++40::t))),.p (.int (s.length:Int)),.ref 0] (gU o)=some (.p (jz "operand" (s.length+1) false),gU (o+1)):=by
 obtain⟨n,rfl⟩:=eE (n:=n) (by first|assumption|lia);have d:=bD (u:=s++40::t) (by lia) (cx s 40 t);have h:o≤1000000:=by lia
 rw[e6];generalize aG (s++40::t)=x at *
 simp[bR,bL,d,rV,gU,eH,h,cA,jz,wR,-List.map_replicate]
theorem Kl(A:2≤n)(P:(s++c::t).length≤900)(i:fg (s++c::t))(F:ei c=true)(S:aL):aF Gv Att O Rs Tb n "_law_operand" [.p (.str (aG (s++c::t))),.p (.int (s.length:Int)),.ref 0] S=some (.p (jz "behind" (s.length+jA c ((c::t).takeWhile ei).length) true),S):=by
 obtain⟨n,rfl⟩:=eE (n:=n) (by first|assumption|lia);have m:L2.atI (s++c::t) (s.length:Int)=some c:=cx s c t;have p:(s++c::t).length≤1000000:=by lia
 have y:=bD p m;have w:c≠40:=λe=>by rw[e]at F;cases F
 have z:=λS=>db c "0123456789" S;rw[(cX c (i c (by simp))).1,F]at z;have H:(s++c::t).length=s.length+(t.length+1):=by simp
 rw[e6];by_cases f:c=48
 .have K:((⟨#[c]⟩:Str)=Str.ofString "0")=True:=by rw[CI];exact nq f
  have e:∀v,aV (cE (cf (U (aY cU cJ)) (U (vt "0"))) (cE (bV (dB iY (ck fX (v2 (bF Y) (ag cJ uL))))) (bV (cc gE (U (aY cU iY)) (U (vt "0123456789")))))) (cZ (aF Gv Att O Rs Tb (n+1)) (aF Gv Att O Rs Tb n) v) 1000
   [qs (aG (s++c::t)),qi (s.length:Int),qr 0,qi ((s.length:Int)+1),none] S=some (.nx,[qs (aG (s++c::t)),qi (s.length:Int),qr 0,qi ((s.length:Int)+1),none],S):=λv=>bu (by simp[y,K])
  have l:jA c ((c::t).takeWhile ei).length=1:=by unfold jA;rw[ai f]
  rw[l];generalize aG (s++c::t)=x at *
  simp[bR,bL,dR,y,rV,w,z,e,cA,jz]
 .have r:t.takeWhile ei++t.dropWhile ei=t:=gv;have o:s++c::t=(s++[c])++((t.takeWhile ei).take 2++((t.takeWhile ei).drop 2++t.dropWhile ei)):=by
   rw[<- di ((t.takeWhile ei).take 2),mJ,r];simp
  have j:∀x ∈ t.takeWhile ei,eO x "0123456789"=true:=λx m=>by rw[(cX x (i x (b_ _ (a_ _ (by rw[<- r];exact gm _ m))))).1];exact jW m
  have e:=fun v=>FN (aF Gv Att O Rs Tb (n+1)) (aF Gv Att O Rs Tb n) v (q:=s++c::t) (w:=none) (S:=S) (u:=.ref 0) p m f ((t.takeWhile ei).take 2) (s++[c]) ((t.takeWhile ei).drop 2++t.dropWhile ei) 1000 o (fun x m=>j x (qJ m)) (fun d u h=>by
   cases g:(t.takeWhile ei).drop 2 with
   |nil=>rw[g,cT]at h;left;rw[(cX d (i d (b_ _ (a_ _ (by rw[<- r,h];simp))))).1];exact gF h
   |cons a b=>
    right;have:2 < (t.takeWhile ei).length:=by have:=dz eo g;rw[eL,aS]at this;lia
    rw[cG,mO (by lia)];simp) (by simp;lia) (by simp;lia)
  have l:jA c ((c::t).takeWhile ei).length=1+((t.takeWhile ei).take 2).length:=by unfold jA;rw[ar f,gk,ai F,aS,cG];lia
  rw[l];rw[show((s++[c]).length:Int)=(s.length:Int)+1 by simp,show(((s++[c]).length+((t.takeWhile ei).take 2).length:Nat):Int)=(s.length:Int)+(1+(((t.takeWhile ei).take 2).length:Int)) by simp;lia]at e;generalize ((t.takeWhile ei).take 2).length=k at *
  generalize aG (s++c::t)=x at *
  simp[bR,bL,dR,y,rV,w,z,e,cA,jz]
theorem Kk(A:3≤n)(H:(s++c::t).length≤900)(u:fg (s++c::t))(F:ei c=false)(a:c≠40)(S:aL):aF Gv Att O Rs Tb n "_law_operand" [.p (.str (aG (s++c::t))),.p (.int (s.length:Int)),.ref 0] S =
  some (.p (if ee c=true then (if 10 < ((c::t).takeWhile ee).length then jz "no" (s.length+10) false else if zF (aG ((c::t).takeWhile ee))=true then jz "no" (s.length+((c::t).takeWhile ee).length) false else jz "behind" (s.length+((c::t).takeWhile ee).length) true) else jz "no" s.length false),S):=by
 obtain⟨n,rfl⟩:=eE (n:=n) (by first|assumption|lia);have z:L2.atI (s++c::t) (s.length:Int)=some c:=cx s c t;have p:(s++c::t).length≤1000000:=by lia
 have d:=bD p z;have g:=λS=>db c "0123456789" S;rw[(cX c (u c (by simp))).1,F]at g;have m:=Et (n:=n+1) (by lia) s (c::t) H u;have q:(c::t).takeWhile ee++(c::t).dropWhile ee=c::t:=gv;have b:∀x ∈ (c::t).takeWhile ee,x < 128:=λx z=>u x (b_ _ (by rw[<- q];exact gm _ z));have w:=BS (kY b);have P:((c::t).takeWhile ee).length≤(c::t).length:=by have:=dz eo q;rw[aN]at this;lia
 rw[aN]at H;have r:((c::t).takeWhile ee).length≤1000000:=by lia
 have l:(aG ((c::t).takeWhile ee)).length=((c::t).takeWhile ee).length:=du _;have j:zF (aG ((c::t).takeWhile ee))=true->((c::t).takeWhile ee).length≤4:=λh=>by rw[<- l];exact ED h
 rw[e6];by_cases L:ee c=true
 .rw [ai L];have f:¬aG ((c::t).takeWhile ee)=Str.ofString "":=λe=>by
   have o:=dz jo e;rw[l,gk,ai L,show(Str.ofString "").length=0 by decide +kernel]at o;simp at o
  generalize (c::t).takeWhile ee=run at *
  generalize aG run=x at *
  generalize aG (s++c::t)=y at *
  cases i:zF x with
  |true=>
   rw[i]at w;have:=j i
   rw[ar (by lia),ai rfl];simp[bR,bL,d,rV,a,g,m,f,w,bE,bX,l,r,cA,jz]
  |false=>
   rw[i]at w;by_cases v:10 < run.length
   .have k:(10:Int) < (run.length:Int):=by lia
    rw[ai v];simp[bR,bL,d,rV,a,g,m,f,w,bE,bX,l,r,v,k,cA,jz]
   .have k:¬(10:Int) < (run.length:Int):=by lia
    rw[ar v,ar (by decide)];simp[bR,bL,d,rV,a,g,m,f,w,bE,bX,l,r,v,k,cA,jz]
 .rw [ar L];have K:aG ((c::t).takeWhile ee)=Str.ofString "":=by
   rw[gk,ar L];decide +kernel
  rw[K]at m;generalize aG (s++c::t)=y at *
  simp[bR,bL,d,rV,a,g,m,cA,jz]
theorem B_(x:P)(o:Nat):Ev.cut (List.replicate o x) (some (-1)) none=List.replicate (min o 1) x:=by
 cases o with
 |zero=>rfl
 |succ o=>
  unfold Ev.cut;have h:HT.dw (List.replicate (o+1) x).length 0 (some (-1))=o:=by
   rw[gn];first
    |(unfold HT.dw;simp;lia)
    |(simp[HT.dw];lia)
    |(simp[HT.dw])
  have a:HT.dw (List.replicate (o+1) x).length (List.replicate (o+1) x).length none=o+1:=by rw[gn];rfl
  rw[h,a,List.drop_replicate,List.take_replicate];congr 1;lia
theorem Gx(o:Nat):LF (.ref 0) (some (-1)) none (gU o)=some (.lst (List.replicate (min o 1) (P.str "("))):=by show(zz ((List.replicate o (P.str "(")).map .p)).map _=_;rw[yC,kc,B_]
theorem HN:B4 (.lst [.str ("(":Str)]) (.lst [.str ("(":Str)])=some true:=by kernel_rfl
theorem HP:B4 (.lst []) (.lst [.str ("(":Str)])=some false:=by kernel_rfl
theorem Lk(j:2≤n)(i:(s++c::t).length≤900)(r:fg (s++c::t)):aF Gv Att O Rs Tb n "_law_behind" [.p (.str (aG (s++c::t))),.p (.int (s.length:Int)),.ref 0,.p (.str "only")] (gU o) =
  some (if EG c=true then (.p (jz "operand" (s.length+1) false),gU o) else if c=41/\o≠0 then (.p (jz "behind" (s.length+1) false),gU (o-1)) else (.p (jz "no" s.length false),gU o)):=by
 obtain⟨n,rfl⟩:=eE (n:=n) (by first|assumption|lia);have v:L2.atI (s++c::t) (s.length:Int)=some c:=cx s c t;have d:=bD (u:=s++c::t) (by lia) v;have g:=λS=>db c "+-*" S;rw[(cX c (r c (by simp))).2.2.2.1]at g;have k:=Gx o;rw[n_];generalize aG (s++c::t)=y at *
 cases f:EG c with
 |true=>rw[f]at g;rw[ai rfl];simp[bR,dE,d,g,cA,jz]
 |false=>
  rw[f]at g;rw[ar (by decide)];by_cases x:c=41
  .have a:((⟨#[c]⟩:Str)=Str.ofString ")")=True:=by rw[En];exact nq x
   cases o with
   |zero=>rw[ar (λh=>h.2 rfl)];have b:=HP;rw[show List.replicate (min 0 1) (P.str ("(":Str))=[] from rfl]at k;simp[bR,dE,eA,d,g,a,k,b,cA,jz]
   |succ o=>
    rw[ai ⟨x,by lia⟩];have m:=HN;rw[show min (o+1) 1=1 by lia,show List.replicate 1 (P.str ("(":Str))=[P.str ("(":Str)] from rfl]at k;have p:(gU (o+1))[0]? = some (.lst (List.replicate (o+1) (.p (P.str ("(":Str))))):=by simp[gU]
    have e:(gU (o+1)).set 0 (.lst (List.replicate (o+1) (.p (P.str ("(":Str)))).dropLast)=gU o:=by simp[gU]
    have l:(List.replicate (o+1) (D.p (P.str ("(":Str))))[(List.replicate (o+1) (D.p (P.str ("(":Str)))).length-1]? = qp (P.str ("(":Str)):=by simp
    generalize List.replicate (o+1) (D.p (P.str ("(":Str)))=u at *
    rw[Nat.add_sub_cancel];generalize gU o=w at *
    generalize gU (o+1)=S at *
    simp[bR,dE,d,g,a,k,m,cA,jz,eH,p,l,e]
  .have a:((⟨#[c]⟩:Str)=Str.ofString ")")=False:=by rw[En];exact nr x
   rw[ar (λh=>x h.1)];simp[bR,dE,eA,d,g,a,cA,jz]
end
noncomputable def AD:Bool->Str
 |true=>"operand"
 |false=>"behind"
def WL(q:List Nat)(st:Str)(i:Nat)(b:Bool)(x:Option D):Lc:=[qs (aG q),qs st,qr 0,qi (i:Int),qp (.bl b),qs "only",x]
theorem lu(o h:Nat):trunc (gU o).length (gU h)=gU h:=by unfold trunc;split<;>rfl
def FP:EB:=bV (dB iY (bF Y))
section
variable{n:Nat}(a:Str->GF)(v:Str->GX){s t:List Nat}{c o:Nat}{x:Option D}
theorem yo(h:q.length≤1000000):FP (WL q st i b x) S=some (decide (i < q.length),S):=by simp[FP,WL,bE,bX,h]
theorem Ae(e:Str->GF)(c:(s++32::t).length≤900):am e a v (WL (s++32::t) st s.length b x) S=some (.ct,WL (s++32::t) st (s.length+1) false x,S):=by
 have h:=bD (u:=s++32::t) (by lia) (cx s 32 t);generalize s++32::t=q at *
 simp[am,WL,h,oJ]
theorem re(n:Str->GF){st:Str}{S:aL}:∀(m f:Nat)(s:List Nat)(b:Bool),(s++(List.replicate m 32++t)).length≤900 ->
  aV FP (am n a v) (f+m) (WL (s++(List.replicate m 32++t)) st s.length b x) S=aV FP (am n a v) f (WL (s++(List.replicate m 32++t)) st (s.length+m) (b && decide (m=0)) x) S
 |0,f,s,b,_=>by simp
 |m+1,f,s,b,c=>by have e:=re n (st:=st) (S:=S) m f (s++[32]) false (by simp at c ⊢;lia);rw[cH,hZ]at c ⊢;have h:=yo (x:=x) (q:=s++32::(List.replicate m 32++t)) (st:=st) (i:=s.length) (b:=b) (S:=S) (by lia);rw[fE (by simp)]at h;rw[show f+(m+1)=(f+m)+1 by lia,uP h (Ae a v n c)];simp only[di,hZ,cT,aN,aS,dh,qx,qS]at e;rw[e];simp[Nat.add_assoc,w6 1 m]
theorem Ad(r:(s++c::t).length≤900)(e:c≠32)(h:aF Gv Att O Rs Tb n "_law_operand" [.p (.str (aG (s++c::t))),.p (.int (s.length:Int)),.ref 0] S=some (.p (jz st j b),k))(f:st="operand"\/st="behind")(m:trunc S.length k=k) :
  am (aF Gv Att O Rs Tb n) a v (WL (s++c::t) "operand" s.length false x) S=some (.nx,WL (s++c::t) st j b (qp (jz st j b)),k):=by
 have d:=bD (u:=s++c::t) (by lia) (cx s c t);generalize s++c::t=q at *
 rcases f with rfl|rfl
 .simp [am,WL,d,oJ,e,h,jz,m]
 .simp [am,WL,d,oJ,e,h,jz,m]
theorem rf(m:(s++c::t).length≤900)(k:c≠32)(h:aF Gv Att O Rs Tb n "_law_operand" [.p (.str (aG (s++c::t))),.p (.int (s.length:Int)),.ref 0] S=some (.p (jz "no" j b),e))(f:trunc S.length e=e) :
  ∃L,am (aF Gv Att O Rs Tb n) a v (WL (s++c::t) "operand" s.length false x) S=some (.rt (.p (.int (j:Int))),L,e):=by
 have d:=bD (u:=s++c::t) (by lia) (cx s c t);generalize s++c::t=q at *
 exact⟨_,by simp[am,WL,d,oJ,k,h,jz,f];rfl⟩
theorem Dw(k:(s++c::t).length≤900)(e:fg (s++c::t))(h:c≠32)(w:(ee c ||ei c)=true)(n:Str->GF) :
  ∃L,am n a v (WL (s++c::t) st s.length true x) S=some (.rt (.p (.int (s.length:Int))),L,S):=by
 have d:=bD (u:=s++c::t) (by lia) (cx s c t);have g:=λS=>db c "abcdefghijklmnopqrstuvwxyz0123456789" S;rw[(cX c (e c (by simp))).2.2.2.2.1,w]at g;generalize s++c::t=q at *
 exact⟨_,by simp[am,WL,d,oJ,h,g];rfl⟩
theorem Fv(u:(s++c::t).length≤900)(p:fg (s++c::t))(e:c≠32)(w:b=true->(ee c ||ei c)=false)(h:aF Gv Att O Rs Tb n "_law_behind" [.p (.str (aG (s++c::t))),.p (.int (s.length:Int)),.ref 0,.p (.str "only")] S=some (.p (jz st j m),f))(k:st="operand"\/st="behind")(r:trunc S.length f=f) :
  am (aF Gv Att O Rs Tb n) a v (WL (s++c::t) "behind" s.length b x) S=some (.nx,WL (s++c::t) st j m (qp (jz st j m)),f):=by
 have d:=bD (u:=s++c::t) (by lia) (cx s c t);have g:=λS=>db c "abcdefghijklmnopqrstuvwxyz0123456789" S;rw[(cX c (p c (by simp))).2.2.2.2.1]at g;generalize s++c::t=q at *
 cases b with
 |false=>rcases k with rfl|rfl<;>simp[am,WL,d,oJ,e,h,jz,r]
 |true=>rw[w rfl]at g;rcases k with rfl|rfl<;>simp[am,WL,d,oJ,e,g,h,jz,r]
theorem Dy(p:(s++c::t).length≤900)(r:fg (s++c::t))(e:c≠32)(h:aF Gv Att O Rs Tb n "_law_behind" [.p (.str (aG (s++c::t))),.p (.int (s.length:Int)),.ref 0,.p (.str "only")] S=some (.p (jz "no" s.length m),k)) :
  ∃L k,am (aF Gv Att O Rs Tb n) a v (WL (s++c::t) "behind" s.length b x) S=some (.rt (.p (.int (s.length:Int))),L,k):=by
 have d:=bD (u:=s++c::t) (by lia) (cx s c t);have g:=λS=>db c "abcdefghijklmnopqrstuvwxyz0123456789" S;generalize s++c::t=q at *
 cases b with
 |false=>exact⟨_,_,by simp[am,WL,d,oJ,e,h,jz];exact⟨rfl,rfl⟩⟩
 |true=>
  cases f:eO c "abcdefghijklmnopqrstuvwxyz0123456789" with
  |true=>rw[f]at g;exact⟨_,_,by simp[am,WL,d,oJ,e,g];exact⟨rfl,rfl⟩⟩
  |false=>rw[f]at g;exact⟨_,_,by simp[am,WL,d,oJ,e,g,h,jz];exact⟨rfl,rfl⟩⟩
end
def NX(n:Nat)(a:Str->GF)(v:Str->GX)(s r:List Nat)(w b:Bool)(o:Nat)(x:Option D):Out->Prop
 | .bad k=>(∃L S,am (aF Gv Att O Rs Tb n) a v (WL (s++r) (AD w) s.length b x) (gU o)=some (.rt (.p (.int ((s.length+k:Nat):Int))),L,S)) \/
   (1≤k/\k < r.length/\(∃d u,r.drop k=d::u/\ei d=true)/\∃h,am (aF Gv Att O Rs Tb n) a v (WL (s++r) (AD w) s.length b x) (gU o)=some (.nx,WL (s++r) "behind" (s.length+k) true h,gU o))
 | .fin=>False
 | .go k c f=>1≤k/\k≤r.length/\f≤o+1/\∃h e,(c=true->e=false)/\am (aF Gv Att O Rs Tb n) a v (WL (s++r) (AD w) s.length b x) (gU o)=some (.nx,WL (s++r) (AD c) (s.length+k) e h,gU f)
variable{b:Bool}
theorem Dx(M:4≤n)(a:Str->GF)(v:Str->GX)(f:(s++c::t).length≤900)(g:fg (s++c::t))(k:c≠32)(C:w=true->b=false)(E:o≤900) :
  NX n a v s (c::t) w b o x (stp (c::t) w o):=by
 cases w with
 |true=>
  cases C rfl;unfold stp;dsimp only;rw[ai rfl];by_cases F:ei c=true
  .rw [ai F];have e:=Ad a v (x:=x) f k (Kl (n:=n) (by lia) f g F (gU o)) (.inr rfl) (lu ..);have r:(c::t).takeWhile ei++(c::t).dropWhile ei=c::t:=gv;have l:1≤((c::t).takeWhile ei).length:=by rw[gk,ai F,aS];lia
   have i:∀x ∈ (c::t).takeWhile ei,ei x=true:=λx I=>jW I;have q:=dz eo r;rw[aN]at q;generalize (c::t).takeWhile ei=run at *
   have H:1≤jA c run.length/\jA c run.length≤run.length:=by unfold jA;split<;>lia
   by_cases y:jA c run.length < run.length
   .rw [ai y];refine .inr ⟨H.1,by lia,?_,_,e⟩;rw[<- r,List.drop_append_of_le_length H.2];cases j:run.drop (jA c run.length) with
    |nil=>have:=dz eo j;rw[eL,dh]at this;lia
    |cons d u=>exact⟨d,u++(c::t).dropWhile ei,rfl,i d (wQ (by rw[j];exact aZ))⟩
   .rw [ar y];have G:jA c run.length=run.length:=by lia
    rw[G]at e;exact⟨l,by lia,by lia,_,true,(λz=>nomatch z),e⟩
  .rw [ar F];have S:ei c=false:=by simpa using F
   by_cases p:c=40
   .subst p;rw[ar (by decide),ai rfl];exact⟨aw _,by simp,aw _,_,false,λ_=>rfl,Ad a v f k (GZ (by lia) f E) (.inl rfl) (lu ..)⟩
   .have e:=Kk (n:=n) (by lia) f g S p (gU o);by_cases K:ee c=true
    .rw [ai K]at e ⊢;have r:(c::t).takeWhile ee++(c::t).dropWhile ee=c::t:=gv;have l:1≤((c::t).takeWhile ee).length:=by rw[gk,ai K,aS];lia
     have q:=dz eo r;rw[aN]at q;generalize (c::t).takeWhile ee=run at *
     by_cases y:10 < run.length
     .rw [ai y]at e ⊢;obtain⟨L,h⟩:=rf a v (x:=x) f k e (lu ..);exact .inl ⟨L,_,h⟩
     .rw [ar y]at e ⊢;by_cases B:zF (aG run)=true
      .rw [ai B]at e ⊢;obtain⟨L,h⟩:=rf a v (x:=x) f k e (lu ..);exact .inl ⟨L,_,h⟩
      .rw [ar B]at e ⊢;exact⟨l,by lia,by lia,_,true,(λz=>nomatch z),Ad a v f k e (.inr rfl) (lu ..)⟩
    .rw [ar K]at e ⊢;rw[ar p];obtain⟨L,h⟩:=rf a v (x:=x) f k e (lu ..);exact .inl ⟨L,_,h⟩
 |false=>
  unfold stp;dsimp only;rw[ar (by decide)];have e:=Lk (n:=n) (o:=o) (by lia) f g;by_cases P:EG c=true
  .rw [ai P]at e ⊢;refine⟨aw _,by simp,by lia,_,false,λ_=>rfl,Fv a v f g k (λ_=>?_) e (.inl rfl) (lu ..)⟩;obtain⟨m,D,rfl⟩:=BI P;cases m<;>first|rfl|exact absurd rfl D
  .rw [ar P]at e ⊢;by_cases A:c=41/\o≠0
   .rw [ai A]at e ⊢;refine⟨aw _,by simp,by lia,_,false,λ_=>rfl,Fv a v f g k (λ_=>?_) e (.inr rfl) (lu ..)⟩;rw[A.1];rfl
   .rw [ar A]at e ⊢;exact .inl (Dy a v f g k e)
theorem xK(hn:4≤n)(a:Str->GF)(v:Str->GX):∀(f:Nat)(s r:List Nat)(w b:Bool)(o:Nat)(x:Option D)(g:Nat),r.length < f->r.length < g->(s++r).length≤900->fg (s++r)->(∀c t,r=c::t->c≠32)->(w=true->b=false)->o≤s.length ->
  match oK f s.length r w o with
  | .inl p=>(∃L I,aV FP (am (aF Gv Att O Rs Tb n) a v) g (WL (s++r) (AD w) s.length b x) (gU o)=some (.rt (.p (.int (p:Int))),L,I))\/p=(s++r).length/\∃K j F,aV FP (am (aF Gv Att O Rs Tb n) a v) g (WL (s++r) (AD w) s.length b x) (gU o)=some (.nx,WL (s++r) "operand" (s++r).length K j,gU F)
  | .inr F=>∃K j,aV FP (am (aF Gv Att O Rs Tb n) a v) g (WL (s++r) (AD w) s.length b x) (gU o)=some (.nx,WL (s++r) "behind" (s++r).length K j,gU F)/\F≤900
 |0,_,r,_,_,_,_,_,h,_,_,_,_,_,_=>absurd h (ki _)
 |f+1,s,r,w,b,o,x,0,_,h,_,_,_,_,_=>absurd h (ki _)
 |f+1,s,[],w,b,o,x,g+1,hf,hg,H,C,Z,X,ho=>by
  rw[dZ]at H ⊢;have m:=yo (x:=x) (q:=s) (st:=AD w) (i:=s.length) (b:=b) (S:=gU o) (by lia);rw[cC (by lia)]at m;cases w with
  |true=>exact .inr ⟨rfl,b,x,o,bu m⟩
  |false=>exact⟨b,x,bu m,by lia⟩
 |f+1,s,c::t,w,b,o,x,g+1,hf,hg,H,C,Z,X,ho=>by
  have hcl:s.length+(c::t).length≤900:=by rw[<- aN];exact H
  have G:=Dx hn a v (x:=x) H C (Z c t rfl) X (o:=o) (by lia);have m:=yo (x:=x) (q:=s++c::t) (st:=AD w) (i:=s.length) (b:=b) (S:=gU o) (by lia);rw[fE (by simp)]at m;unfold oK;generalize stp (c::t) w o=y at G;cases y with
  |bad k=>
   left;rcases G with ⟨L,I,h⟩|⟨h1,V,⟨d,u,W,A⟩,j,h⟩
   .exact⟨L,I,nz m h⟩
   .rw [cW m h];have E:s++c::t=(s++(c::t).take k)++d::u:=by rw[<- W,di,mJ]
    have N:s.length+k=(s++(c::t).take k).length:=by rw[aN,cG,mO (by lia)]
    obtain⟨g,rfl⟩:∃P,g=P+1:=⟨g-1,by lia⟩;rw[E,N];have B:d≠32:=λe=>by rw[e]at A;cases A
    obtain⟨L,h5⟩:=Dw a v (x:=j) (by rw[<- E];exact H) (by rw[<- E];exact C) B (by rw[A,qu]) (aF Gv Att O Rs Tb n) (S:=gU o) (st:="behind");have l:=yo (x:=j) (q:=(s++(c::t).take k)++d::u) (st:="behind") (i:=(s++(c::t).take k).length) (b:=true) (S:=gU o) (by rw[<- E];lia);rw[fE (by simp)]at l;exact⟨L,_,nz l h5⟩
  |fin=>exact G.elim
  |go k w' F=>
   obtain⟨h1,V,W,j,K,A,h⟩:=G;have e:=yh (a:=s) (r:=c::t) k;have R:=tM ((c::t).drop k);rw[eL]at R;have Q:(s++(c::t).take k++List.replicate (nb ((c::t).drop k)) 32).length=s.length+k+nb ((c::t).drop k):=by simp only[aN,cG,gn];lia
   have N:(s++(c::t).take k).length=s.length+k:=by rw[aN,cG,mO V]
   obtain⟨P,rfl⟩:∃P,g=P+nb ((c::t).drop k):=⟨g-nb ((c::t).drop k),by lia⟩;have ih:=xK hn a v f (s++(c::t).take k++List.replicate (nb ((c::t).drop k)) 32) (sk ((c::t).drop k)) w' (K && decide (nb ((c::t).drop k)=0)) F j P (by lia) (by lia) (by rw[e];exact H) (by rw[e];exact C) (λd u hd M=>by have:=gF (p:=Hz) hd;rw[M]at this;cases this) (λz=>by rw[A z];rfl) (by lia)
   rw[e,Q]at ih;have T:=re a v (x:=j) (t:=sk ((c::t).drop k)) (aF Gv Att O Rs Tb n) (st:=AD w') (S:=gU F) (nb ((c::t).drop k)) P (s++(c::t).take k) K (by rw[<- di,e];exact H);rw[<- di,e,N]at T;rw[cW m h,T];exact ih
theorem BR(o:Nat):BU (.ref 0) (.p (.lst [])) (gU o)=some (.bl (decide (o=0))):=by
 have h:da (gU o) 9 (.ref 0)=some (.lst (List.replicate o (P.str "("))):=by show(jB (da (gU o) 8) ((List.replicate o (P.str "(")).map .p)).map P.lst=_;rw[x5];rfl
 unfold BU;rw[h,eK,rH,eK,EL (b9.mpr λx a=>by rw[(mH.mp a).2];decide +kernel)];cases o<;>rfl
noncomputable def vP:Option Nat->P
 |some p=>.int (p:Int)
 |none=>.non
theorem DQ(z:6≤n)(m:q.length≤900)(d:fg q):jH (aF Gv Att O Rs Tb n "_law_stop") [.str (aG q),.str "operand"]=some (vP (uQ q)):=by
 obtain⟨n,rfl⟩:=eE (n:=n) (by first|assumption|lia);have k:=tL q;have u:=tM q;have s:=re (aF Gv Att O Rs Tb n) (cO Gv Att O Rs Tb (n+1)) (x:=none) (t:=sk q) (aF Gv Att O Rs Tb (n+1)) (st:="operand") (S:=gU 0) (nb q) (1000-nb q) [] false (by rw[cT,<- k];exact m);have l:=xK (n:=n+1) (by lia) (aF Gv Att O Rs Tb n) (cO Gv Att O Rs Tb (n+1)) 1000 (List.replicate (nb q) 32) (sk q) true false 0 none (1000-nb q) (by lia) (by lia) (by rw[<- k];exact m) (by rw[<- k];exact d) (λc t h e=>by have:=gF (p:=Hz) h;rw[e]at this;cases this) (λ_=>rfl) (dn _)
 rw[<- k,gn]at l;rw[cT,<- k,dh,qS,Nat.sub_add_cancel (by lia)]at s;change aV _ _ _ _ _=aV _ _ _ (WL q (AD true) (nb q) false none) _ at s;have a:q.length≤1000000:=by lia
 rw [sf,cb];have w:kJ (aF Gv Att O Rs Tb (n+1)) (aF Gv Att O Rs Tb n) (cO Gv Att O Rs Tb (n+1))=aj (aP 2 (kC d_)) (aj (aP 3 (U jy)) (aj (aP 4 (U (vC (.bl false)))) (aj (aP 5 (U (aY (eT (v2 (vt "first") (vt "only"))) (ck eI (v1 (cc BU cQ (U (vt "operand")))))))) (aj (aV FP (am (aF Gv Att O Rs Tb (n+1)) (aF Gv Att O Rs Tb n) (cO Gv Att O Rs Tb (n+1))) 1000)
  (aj (bS (cE (aO iE (U (eT d_))) (on (aO cQ (U (vt "done"))) (cE (aO cQ (U (vt "behind"))) (cf (ej 5) (U (vt "first")))))) (bw (U (vC (.non)))) c_)
  (bw (U (bF Y)))))))):=rfl
 have i:eI [.bl true]=some (.int 1):=rfl;rw[w];unfold uQ;generalize oK 1000 (nb q) (sk q) true 0=y at l ⊢;change aV _ _ _ [qs (aG q),qs "operand",qr 0,qi 0,qp (.bl false),qs "only",none] [.lst []]=_ at s;cases y with
 |inl p=>
  rcases l with ⟨L,f,h⟩|⟨rfl,v,j,b,h⟩
  .rw [h]at s;simp[i,s,vP]
  .rw [h]at s;have g:=BR b;generalize gU b=f at *
   cases r:decide (b=0) with
   |true=>rw[r]at g;simp[i,s,vP,WL,g,bE,bX,a]
   |false=>rw[r]at g;simp[i,s,vP,WL,g,bE,bX,a]
 |inr o=>
  obtain⟨v,j,h,_⟩:=l;rw[h]at s;have g:=BR o;cases o with
  |zero=>
   generalize gU 0=f at *
   simp[i,s,vP,WL,g]
  |succ o=>
   rw[cC (Nat.succ_ne_zero o)]at g;generalize gU (o+1)=f at *
   simp[i,s,vP,WL,g,bE,bX,a]
theorem Af(a:2≤n)(i:Int):jH (aF Gv Att O Rs Tb n "_law_whole") [.int i]=some (.bl true):=by
 obtain⟨n,rfl⟩:=eE (n:=n) (by first|assumption|lia);have h:fy "int" (.int i)=true:=by first|rfl|kernel_rfl
 have x:fy "bool" (.int i)=false:=by first|rfl|kernel_rfl
 rw[oO,cb];simp[jO,h,x]
theorem NV:kM O Rs "NoText" "NoText"=some true:=by kernel_rfl
theorem NU:kM O Rs "ValueError" "NoText"=some true:=by kernel_rfl
theorem NT:lq O Rs ["NoDeed","NoFact","NoLine","NoPlan","NoRow","NoThing","NotPossible","TooMany"] "NoText"=some false:=by kernel_rfl
theorem NB:CJ.lookup ("NoText":Str)=some ("place":Str):=by kernel_rfl
theorem u4(x:3≤n)(S:aL)(j p:Nat)(h:S[j]? = some (.exc "NoText" (some ("place",.int (p:Int))))):aF Gv Att O Rs Tb n "_law_refused" [.ref j,.p (.int (p:Int))] S=some (.p (.bl true),S):=by obtain⟨n,rfl⟩:=eE (n:=n) (by first|assumption|lia);have e:=Af (n:=n+1) (by lia) (p:Int);rw[lK];simp[bR,iJ,y',h,NV,NU,NT,NB,e,cA,BU]
theorem tq(d:14≤n)(c:q.length≤900)(f:fg q):jH (aF Gv Att O Rs Tb n "_law_right") [.str (aG q)]=some (.bl true):=by
 obtain⟨n,rfl⟩:=eE (n:=n) (by first|assumption|lia);have s:=DQ (n:=n+1) (by lia) c f;have e:=Ay (n:=n+1) (by lia) c f;have h:(Option.any (λa:LS=>decide (("RoadError":Str) ∈ a)) (cF ("NoText":Str) O))=true:=by kernel_rfl
 rw[oP,cb];generalize uQ q=v at s e;cases v with
 |none=>
  obtain⟨x,S,e⟩:=e;have k:jH (aF Gv Att O Rs Tb (n+1) "read_sum") [.str (aG q)]=some (.tup x):=tt e;have m:fy "tuple" (.tup x)=true:=by first|rfl|kernel_rfl
  simp[gR,u1,s,k,vP,HH,yb,m]
 |some p=>
  obtain⟨r,S,t⟩:=e;have k:jH (aF Gv Att O Rs Tb (n+1) "read_sum") [.str (aG q)]=none:=by unfold jH;rw[show([.str (aG q)]:List P).map D.p=[.p (.str (aG q))] from rfl,r]
  have b:=u4 (n:=n+1) (by lia) (S++[.exc "NoText" (some ("place",.int (p:Int)))]) S.length p (by simp);simp[gR,u1,s,k,t,vP,HH,yb,h,b]
end My
namespace My
open PySem L2 Ev
def T.gd:T->Prop
 | .num n=>n < 1000
 | .nam c=>Nam c
 | .bin m l r=>m.lvl≠0/\l.gd/\r.gd
def T.lv:T->Nat
 | .num _=>7
 | .nam _=>7
 | .bin m _ _=>m.lvl
noncomputable def T.kd:T->Str
 | .num _=>"number"
 | .nam _=>"name"
 | .bin m _ _=>m.kd
noncomputable def T.sz:T->Nat
 | .num _=>1
 | .nam _=>1
 | .bin _ l r=>1+l.sz+r.sz
noncomputable def T.dp:T->Nat
 | .num _=>1
 | .nam _=>1
 | .bin _ l r=>1+max l.dp r.dp
theorem DG(a b:List Nat):aG a++aG b=aG (a++b):=by show(⟨(aG a).cps++(aG b).cps⟩:Str)=_;simp[aG]
def Ow(n:Nat):Bool:=!(dg n).isEmpty && decide ((dg n).length≤3) && (dg n).all (λc=>decide (48≤c) && decide (c < 58)) && (decide ((dg n)[0]? = some 48->(dg n).length=1))
theorem E3:∀n < 1000,Ow n=true:=by decide +kernel
theorem Gu(n:Nat):Str.ofString (toString (n:Int))=aG (dg n):=by
 have h:=PySem.W.KIN.signs_num n;generalize Str.ofString (toString (n:Int))=x at *
 obtain⟨c⟩:=x;show(⟨c⟩:Str)=⟨(dg n).toArray⟩;have:c=(dg n).toArray:=by apply Array.toList_inj.mp;simpa[dg] using h
 rw[this]
variable{m:Mk}
theorem Hd:¬m.kd=("number":Str):=by cases m<;>decide +kernel
theorem Hf:¬m.kd=("name":Str):=by cases m<;>decide +kernel
theorem Od(t:T):∃r,t.tp=.tup (.str t.kd::r):=by cases t<;>exact⟨_,rfl⟩
theorem NI(t:T):mY t.tp (.int 0)=some (.str t.kd):=by obtain⟨r,e⟩:=Od t;rw[e];simp
theorem DX:(" ":Str)=aG [32]:=by decide +kernel
theorem DW:("(":Str)=aG [40]:=by decide +kernel
theorem JY:(")":Str)=aG [41]:=by decide +kernel
theorem Cm{q:Nat}(h:q < 1000):lF [.int (q:Int)]=some (.str (aG (dg q))):=by
 rw [<- Gu];simp only [lF];rw [ai (fE (by
  have:((q:Int)).natAbs=q:=by lia
  rw[this];by_cases h0:q=0
  .subst h0;decide
  .exact bG ((qP h0).mpr (show q < 2 ^ 60 by lia)) (by decide)))]
theorem log2_small{i:Int}(h:i.natAbs < 2 ^ 60):i.natAbs.log2 < 60:=by
 by_cases e:i.natAbs=0
 .rw [e];decide
 .exact (qP e).mpr h
theorem ed{i j:Int}(h:i.natAbs < 2 ^ 60)(x:j.natAbs < 2 ^ 60):iH i j=true:=by unfold iH;have a:=log2_small h;have b:=log2_small x;exact fE (by lia)
variable{A:Type}
theorem oo(h:xs≠[])(a:Int):∃x ∈ xs,L2.atI xs (a % (xs.length:Int))=some x:=by
 have hl:(0:Int) < (xs.length:Int):=by cases xs with|nil=>exact absurd rfl h|cons _ _=>simp
 have h0:=dY a (Int.ne_of_gt hl);have h1:=eJ a hl;have hk:(a % (xs.length:Int)).toNat < xs.length:=by lia
 exact⟨xs[(a % (xs.length:Int)).toNat],List.getElem_mem _,cN h0 (by simp[hk])⟩
theorem oj{g:jD}{e:EV}{Inv:Lc->Prop}{Q:P->Prop}{S:aL}:∀{xs:List P}{L:Lc},(∀v ∈ xs,∀L,Inv L->∃L1 y,g v L=some L1/\Inv L1/\e L1 S=some (y,S)/\Q y)->Inv L ->
  ∃ys,jg g Cs e xs L S=some (ys,S)/\(∀y ∈ ys,Q y)/\ys.length=xs.length
 | [],L,_,h=>⟨[],rfl,λ_ z=>(by cases z),rfl⟩
 |v::r,L,hs,h=>by obtain⟨L1,y,e1,i1,e2,q⟩:=hs v aZ L h;obtain⟨ys,e3,h3,h4⟩:=oj (xs:=r) (L:=L1) (λw hw=>hs w (a_ _ hw)) i1;exact⟨y::ys,by simp[jg,e1,e2,e3],λz hz=>(av.mp hz).elim (λe=>e ▸ q) (h3 z),by simp[h4]⟩
theorem ints_get{lo:Int}{n i:Nat}{v:P}(h:(intsFrom lo n)[i]? = some v):v=.int (lo+i)/\i < n:=by
 unfold Ev.intsFrom at h;rw[jr]at h;cases e:(List.range n)[i]? with
 |none=>rw[e]at h;cases h
 |some j=>
  rw[e]at h;cases h;have:=bt.mp e
  obtain⟨h1,h2⟩:=this;simp at h1 h2;subst h2;exact⟨rfl,h1⟩
theorem t4{lo:Int}{n:Nat}{v:P}(h:v ∈ intsFrom lo n):∃i:Nat,v=.int (lo+i)/\i < n:=by obtain⟨i,hi,e⟩:=List.mem_iff_getElem.mp h;exact⟨i,ints_get (by rw[wY hi,e])⟩
theorem t5(lo:Int)(n:Nat):(intsFrom lo n).length=n:=by simp[Ev.intsFrom]
theorem Bp(ψ ι:Str->GF)(υ:Str->GX)(xs:List P):∀(a:Int)(p t q:Option D),∃(r:Int)(t':Option D),et (g6 2) (fZ ψ ι υ) xs [qi a,p,t,q] []=some (.nx,[qi r,p,t',q],[]):=by
 induction xs with
 |nil=>intro a p t q;exact⟨a,t,rfl⟩
 |cons x xs ih=>intro a p t q;obtain⟨r,t',h⟩:=ih (a / 2147483648) p (qp x) q;exact⟨r,t',by simpa[et,fZ] using h⟩
variable{n:Nat}
theorem i8(hn:2≤n)(a:Int){p:Int}(h0:0≤p)(h1:p < 1000):∃r:Int,0≤r/\jH (aF Gv Att O Rs Tb n "_law_mix") [.int a,.int p]=some (.int r):=by
 obtain⟨n,rfl⟩:=eE (n:=n) (by first|assumption|lia);by_cases h:(1000000000000:Int)≤a
 .obtain⟨r,t',e⟩:=Bp (aF Gv Att O Rs Tb (n+1)) (aF Gv Att O Rs Tb n) (cO Gv Att O Rs Tb (n+1)) (Ev.intsFrom 0 (p % 61).toNat) (a / 1000000000000-1) (qi p) none none;refine⟨r % 2147483648,dY _ (by decide),?_⟩;have hp:(p % 61).natAbs < 1000000:=by lia
  rw[lB,cb];simp[jk,h,hp,e]
 .have h8:0≤8 * p/\8 * p≤8000:=by lia
  have hp2:0≤8 * p * p/\8 * p * p≤8000000:=⟨Int.mul_nonneg h8.1 h0,Int.le_trans (Int.mul_le_mul h8.2 (Int.le_of_lt h1) h0 (by decide)) (by decide)⟩;have m1:iH 8 p=true:=ed (by decide) (by lia);have m2:iH (8 * p) p=true:=ed (by lia) (by lia);have m3:iH (a % 2147483629+p+1) (8 * p * p+48271)=true:=ed (by lia) (by lia);generalize hx:(a % 2147483629+p+1) * (8 * p * p+48271) % 2147483647=x;have hx1:0≤x/\x < 2147483647:=by subst hx;exact⟨dY _ (by decide),eJ _ (by decide)⟩
  have m4:iH x x=true:=ed (by lia) (by lia);generalize hy:x * x % 2147483587=y;have hy1:0≤y/\y < 2147483587:=by subst hy;exact⟨dY _ (by decide),eJ _ (by decide)⟩
  have m5:iH y (y+2)=true:=ed (by lia) (by lia);refine⟨y * (y+2) % 2147483579,dY _ (by decide),?_⟩;rw[lB,cb];simp[jk,h,m1,m2,m3,hx,m4,hy,m5]
theorem cy(h:a.length+b.length≤1000000):cM (.str (aG a)) (.str (aG b))=some (.str (aG (a++b))):=by rw[bP];simp only[sE,du];rw[ai (by rw[gG];exact h),DG]
variable{t:T}
theorem tT(h:t.gd):t.lv=5\/t.lv=6\/t.lv=7:=by
 cases t with
 |num n=>exact .inr (.inr rfl)
 |nam c=>exact .inr (.inr rfl)
 |bin m l r=>cases m<;>first|exact absurd rfl h.1|exact .inl rfl|exact .inr (.inl rfl)
theorem T.pos(t:T):1≤t.sz:=by cases t<;>simp[T.sz];lia
theorem KO(h:m.lvl≠0):m.lvl=5\/m.lvl=6:=by cases m<;>first|exact absurd rfl h|exact .inl rfl|exact .inr rfl
theorem HS(L:Lc)(S:aL):nC (dU "plus" cm (dU "minus" cm (dU "times" iD (dU "or" cm (dU "and" iD vu))))) L S=some (.dct [Sum.inr "plus",Sum.inr "minus",Sum.inr "times",Sum.inr "or",Sum.inr "and"] [.int 1,.int 1,.int 2,.int 1,.int 2],S):=by kernel_rfl
theorem PM(h:t.gd):(fW (Sum.inr t.kd) [Sum.inr ("plus":Str),Sum.inr "minus",Sum.inr "times",Sum.inr "or",Sum.inr "and"] [P.int 1,.int 1,.int 2,.int 1,.int 2]).getD (.int 3)=.int ((t.lv-4:Nat):Int):=by
 cases t with
 |num n=>kernel_rfl
 |nam c=>kernel_rfl
 |bin m l r=>cases m<;>first|exact absurd rfl h.1|kernel_rfl
theorem nW(hn:2≤n)(h:t.gd):jH (aF Gv Att O Rs Tb n "_law_level") [t.tp]=some (.int ((t.lv-4:Nat):Int)):=by obtain⟨n,rfl⟩:=eE (n:=n) (by first|assumption|lia);have k:=NI t;have w:=PM h;rw[oQ,cb];simp[jP,k,HS,iI,w]
theorem HR(L:Lc)(S:aL):nC (dU "plus" (vt "+") (dU "minus" (vt "-") (dU "times" (vt "*") vu))) L S=some (.dct [Sum.inr "plus",Sum.inr "minus",Sum.inr "times"] [.str "+",.str "-",.str "*"],S):=by kernel_rfl
theorem K6(h:m.lvl≠0):fW (Sum.inr m.kd) [Sum.inr ("plus":Str),Sum.inr "minus",Sum.inr "times"] [P.str "+",.str "-",.str "*"]=some (.str (aG [m.ch])):=by cases m<;>first|exact absurd rfl h|kernel_rfl
theorem JZ:("( ":Str)=aG [40,32]:=by decide +kernel
theorem AL:(" )":Str)=aG [32,41]:=by decide +kernel
theorem HE(d:Int):∃(q:Int)(g:Nat),g≤2/\L2.atI [P.int 0,.int 1,.int 1,.int 2] (d % 4)=some (.int q)/\jN (.str (aG [32])) (.int q)=some (.str (aG (List.replicate g 32))):=by
 have h0:=dY d (show(4:Int)≠0 by decide);have h1:=eJ d (show(0:Int) < 4 by decide);have:d % 4=0\/d % 4=1\/d % 4=2\/d % 4=3:=by lia
 rcases this with h|h|h|h<;>rw[h]
 .exact⟨0,0,by decide,by kernel_rfl,by kernel_rfl⟩
 .exact⟨1,1,by decide,by kernel_rfl,by kernel_rfl⟩
 .exact⟨1,1,by decide,by kernel_rfl,by kernel_rfl⟩
 .exact⟨2,2,by decide,by kernel_rfl,by kernel_rfl⟩
variable{S:aL}
theorem gz(h:f L S=some (.nx,x,a)):aj f g L S=g x a:=by show(match f L S with|some (.nx,x,a)=>g x a|r=>r)=_;rw[h]
def Wt(Q:Nat->P->Prop):List P->Nat->Prop
 | [],w=>w=0
 |x::xs,w=>∃s w',Q s x/\Wt Q xs w'/\w=s+1+w'
noncomputable def eb(f:Int->Str):Int->List P->List P
 |k,x::y::r=>.tup [.str (f k),x,y]::eb f (k+2) r
 |_,_=>[]
noncomputable def nT:List P->List P
 |_::_::r=>nT r
 | [x]=>[x]
 | []=>[]
variable{Q:Nat->P->Prop}
theorem tD(hQ:∀k a b x y,0≤k->Q a x->Q b y->Q (a+b+1) (.tup [.str (f k),x,y])):∀(xs:List P)(k:Int)(w:Nat),0≤k->Wt Q xs w->Wt Q (eb f k xs++nT xs) w
 | [],_,_,_,h=>h
 | [_],_,_,_,h=>h
 |x::y::r,k,w,hk,h=>by obtain⟨s,w1,q1,⟨s2,w2,q2,h2,rfl⟩,rfl⟩:=h;have ih:=tD hQ r (k+2) w2 (by lia) h2;exact⟨s+s2+1,w2,hQ k s s2 x y hk q1 q2,ih,by lia⟩
theorem pairs_len(f:Int->Str):∀(xs:List P)(k:Int),(eb f k xs++nT xs).length=(xs.length+1) / 2
 | [],_=>by simp[eb,nT]
 | [_],_=>by simp[eb,nT]
 |x::y::r,k=>by have:=pairs_len f r (k+2);simp only[eb,nT,hZ,aS];lia
theorem nR(f:Int->Str):∀(xs:List P)(k:Int),(eb f k xs).length≤xs.length
 | [],_=>by simp[eb]
 | [_],_=>by simp[eb]
 |x::y::r,k=>by have:=nR f r (k+2);simp only[eb,aS];lia
theorem tJ:∀(xs:List P),(xs.length % 2=1->∃z,xs.getLast? = some z/\nT xs=[z])/\(xs.length % 2=0->nT xs=[])
 | []=>⟨λh=>by simp at h,λ_=>rfl⟩
 | [x]=>⟨λ_=>⟨x,rfl,rfl⟩,λh=>by simp at h⟩
 |x::y::r=>by
  have ih:=tJ r;refine⟨λh=>?_,λh=>?_⟩
  .simp only[aS]at h;obtain⟨z,h1,h2⟩:=ih.1 (by lia);refine⟨z,?_,h2⟩;have hr:r≠[]:=λe=>by rw[e]at h1;simp at h1
   rw[List.getLast?_cons_cons,List.getLast?_cons_of_ne_nil hr];exact h1
  .simp only[aS]at h;exact ih.2 (by lia)
variable{xs:List P}
theorem zy(h:xs.getLast? = some z):L2.atI xs (-1)=some z:=by
 have hne:xs≠[]:=λe=>by rw[e]at h;simp at h
 have hl:0 < xs.length:=kh.mpr hne;rw[List.getLast?_eq_getElem?]at h;unfold L2.atI L2.ya;rw[ar (by lia),ai (by lia)];show xs[((-1:Int)+xs.length).toNat]? = _;rw[show((-1:Int)+xs.length).toNat=xs.length-1 by lia];exact h
noncomputable def pA(k:Int):Nat->List P
 |0=>[]
 |m+1=>.int k::pA (k+2) m
theorem r9(m:Nat):∀k:Int,gP k 2 m=pA k m:=by
 induction m with
 |zero=>intro k;rfl
 |succ m ih=>intro k;rw[pA,<- ih];unfold gP;rw[List.range_succ_eq_map,aU,qF];refine congr (dz _ (by simp)) (List.map_congr_left λi _=>?_);show P.int (k+((i+1:Nat):Int) * 2)=P.int (k+2+(i:Int) * 2);congr 1;lia
def l_(d:Ev.D)(xs:List P)(S:aL):Prop:=d=.p (.lst xs)\/∃j,d=.ref j/\(S[j]? = some (.lst (xs.map .p))\/S[j]? = some (.fz (.lst xs)))
variable{d:Ev.D}
theorem l_.len(h:l_ d xs S):bE d S=some xs.length:=by
 rcases h with rfl|⟨j,rfl,h|h⟩
 .rfl
 .simp [bE,h]
 .simp [bE,h,bX]
variable{k:Nat}
theorem l_.read(h:l_ d xs S)(hk:d≠.ref k):∃S',rB 9 d S=some (.lst xs,S')/\l_ d xs S'/\S'[k]? = S[k]?/\S'.length=S.length:=by
 rcases h with rfl|⟨j,rfl,h|h⟩
 .exact⟨S,by simp,.inl rfl,rfl,rfl⟩
 .refine⟨S.set j (.fz (.lst xs)),xP h,.inr ⟨j,rfl,.inr ?_⟩,?_,by simp⟩
  .rw [dm (bt.mp h).1]
  .rw [cr (λe=>hk (by rw[e]))]
 .exact⟨S,by simp[rB,h],.inr ⟨j,rfl,.inr h⟩,rfl,rfl⟩
theorem rQ(h:S[k]? = some (.lst ds)):eH (.ref k) S=some (k,ds):=by simp[eH,h]
section
variable{u:List P}{f:Int->Str}(hw:∀k:Int,0≤k->L2.atI u (k % (u.length:Int))=some (.str (f k)))(o:0 < u.length)
include hw o
theorem pa(B K:Str->GF)(A:Str->GX)(v:d≠.ref k)(Q:xs.length≤1000):∀(s p a:List P)(S:aL)(c:Option Ev.D),xs=p++s->l_ d xs S->S[k]? = some (.lst (a.map .p))->a.length+s.length≤1000 ->
  ∃b n,et (g6 3) (cw B K A) (pA p.length (s.length / 2))
   [some d,ql u,qr k,c] S=some (.nx,[some d,ql u,qr k,n],b)/\b[k]? = some (.lst ((a++eb f p.length s).map .p))/\l_ d xs b/\b.length=S.length
 | [],p,a,S,c,e,h,hk,l=>⟨S,c,rfl,by simpa[eb] using hk,h,rfl⟩
 | [x],p,a,S,c,e,h,hk,l=>⟨S,c,by simp[pA,et],by simpa[eb] using hk,h,rfl⟩
 |x::y::r,p,a,S,c,e,h,hk,l=>by
  obtain⟨S1,r1,N,R,W⟩:=h.read v;obtain⟨q,r2,m,T,X⟩:=N.read v;have L:L2.atI xs (p.length:Int)=some x:=cN (by lia) (by rw[e];simp);have M:L2.atI xs ((p.length:Int)+1)=some y:=cN (by lia) (by rw[e,show((p.length:Int)+1).toNat=p.length+1 by lia];simp);have I:=hw (p.length:Int) (by lia);have t:q[k]? = some (.lst (a.map .p)):=by rw[T,R];exact hk
  have V:k < q.length:=(bt.mp t).1;have w:(q.set k (.lst (a.map .p++[.p (.tup [.str (f p.length),x,y])])))[k]? = some (.lst ((a++[P.tup [.str (f p.length),x,y]]).map .p)):=by rw[dm V];simp
  have H:l_ d xs (q.set k (.lst (a.map .p++[.p (.tup [.str (f p.length),x,y])]))):=by
   rcases m with m|⟨j,rfl,m⟩
   .exact .inl m
   .refine .inr ⟨j,rfl,?_⟩;rw[cr (λz=>v (by rw[z]))];exact m
  obtain⟨b,n,i,C,D,E⟩:=pa B K A v Q r (p++[x,y]) (a++[.tup [.str (f p.length),x,y]]) _ (qi p.length) (by rw[e];simp) H w (by simp at l ⊢;lia);have G:(x::y::r).length / 2=r.length / 2+1:=by simp only[aS];lia
  have F:((p++[x,y]).length:Int)=(p.length:Int)+2:=by simp
  refine⟨b,n,?_,?_,D,by rw[E];simp[W,X]⟩
  .rw [G,pA];rw[F]at i;have Z:=rQ hk;have o2:=rQ t;have g:a.length≤1000000:=by simp at l;lia
   refine(n8 rfl ?_).trans i;rw[cw];simp[Z,bE,bX,I,r1,r2,L,M,o2,o,g]
  .rw [C];simp only[eb,F,di,List.singleton_append]
end
theorem tN{m:Nat}(h:2≤m):gN 0 ((m:Int)-1) 2=m / 2:=by unfold gN;rw[ai (by lia)];lia
section
variable{u:List P}{f:Int->Str}(hw:∀k:Int,0≤k->L2.atI u (k % (u.length:Int))=some (.str (f k)))(o:0 < u.length){Q:Nat->P->Prop}(B:∀k a b x y,0≤k->Q a x->Q b y->Q (a+b+1) (.tup [.str (f k),x,y]))
include hw o B
theorem zh(E C:Str->GF)(D:Str->GX):∀(m:Nat)(xs:List P)(w:Nat)(d:Ev.D)(S:aL)(F s:Option Ev.D),xs≠[]->xs.length≤m->xs.length≤1000->l_ d xs S->Wt Q xs w ->
  ∃A K b c z,aV (bV (iC (bF Y) cm)) (ez E C D) m [some d,ql u,F,s] S=some (.nx,[some A,ql u,b,c],K)/\l_ A [z] K/\Wt Q [z] w:=by
 intro m;induction m with
 |zero=>intro xs w d S F s n hm;exact absurd (gu (by lia)) n
 |succ m ih=>
  intro xs w d S F s n hm a v hW;by_cases Z:xs.length=1
  .obtain⟨z,rfl⟩:∃z,xs=[z]:=by
    cases xs with
    |nil=>simp at Z
    |cons z r=>have:r=[]:=gu (by simpa using Z);subst this;exact⟨z,rfl⟩
   refine⟨d,S,F,s,z,?_,v,hW⟩;simp[aV,v.len]
  .have h2:2≤xs.length:=by
    have:=kh.mpr n;lia
   have hd:d≠.ref S.length:=λe=>by
    subst e;rcases v with z|⟨j,z,x⟩
    .cases z
    .cases z;rcases x with x|x<;>simp at x
   have g:l_ d xs (S++[.lst []]):=by
    rcases v with z|⟨j,rfl,x⟩
    .exact .inl z
    .refine .inr ⟨j,rfl,?_⟩;have hj:j < S.length:=by
      rcases x with x|x<;>exact(bt.mp x).1
     rw[d1 hj];exact x
   obtain⟨t,y,X,q,H,l2⟩:=pa hw o E C D hd a xs [] [] (S++[.lst []]) s rfl g (by simp) (by simpa using a);simp only[dh,cT]at X q;have G:et (g6 3) (cw E C D) (gP 0 2 (gN 0 ((xs.length:Int)-1) 2))
     [some d,ql u,qr S.length,s] (S++[.lst []])=some (.nx,[some d,ql u,qr S.length,y],t):=by
    rw[r9,tN h2];exact X
   have hc:(1:Int) < (xs.length:Int):=by lia
   have N:((xs.length:Int)-1).natAbs < 1000000:=by lia
   obtain⟨o1,o2⟩:=tJ xs;have l:=pairs_len f xs 0;have T:eb f 0 xs++nT xs≠[]:=λz=>by rw[z]at l;simp at l;lia
   have V:∃p,l_ (.ref S.length) (eb f 0 xs++nT xs) p/\(aj (bS (aO (U (bn (bF Y) iD)) (U cm)) (aQ (dN iE (U (aY cU (yH kG cm))))) c_)
     (aP 0 iE)) [some d,ql u,qr S.length,y] t=some (.nx,[qr S.length,ql u,qr S.length,y],p):=by
    have lk:S.length < t.length:=(bt.mp q).1;by_cases i:xs.length % 2=1
    .obtain⟨z,z1,x⟩:=o1 i;obtain⟨W,r4,h4,k4,l4⟩:=H.read (k:=S.length) hd;have h:(xs.length:Int) % 2=1:=by lia
     have M:W[S.length]? = some (.lst ((eb f 0 xs).map .p)):=by rw[k4];exact q
     have q1:=rQ q;have q2:=rQ M;have hpp:=nR f xs 0;refine⟨W.set S.length (.lst ((eb f 0 xs).map .p++[.p z])),.inr ⟨_,rfl,.inl ?_⟩,?_⟩
     .rw [dm (by lia),x];simp
     .have R:(eb f 0 xs).length≤1000000:=by lia
      simp[H.len,h,q1,q2,r4,zy z1,R]
    .have h:¬(xs.length:Int) % 2=1:=by lia
     refine⟨t,.inr ⟨_,rfl,.inl ?_⟩,?_⟩
     .rw [q,o2 (by lia)];simp
     .simp [H.len,h]
   obtain⟨p,I,e3⟩:=V;obtain⟨A,K,b,c,z,g1,g2,g3⟩:=ih (eb f 0 xs++nT xs) w (.ref S.length) p (qr S.length) y T (by lia) (by lia) I (tD B xs 0 w (by lia) hW);refine⟨A,K,b,c,z,?_,g2,g3⟩;have e4:tm (vj jy (jV (bF Y) cm) iD) (g6 3) (cw E C D)
     [some d,ql u,qr S.length,s] (S++[.lst []])=some (.nx,[some d,ql u,qr S.length,y],t):=by
    show bC (vj jy (jV (bF Y) cm) iD [some d,ql u,qr S.length,s] (S++[.lst []])) _=_;have:vj jy (jV (bF Y) cm) iD [some d,ql u,qr S.length,s] (S++[.lst []])=some (gP 0 2 (gN 0 ((xs.length:Int)-1) 2),S++[.lst []]):=by simp[vj,g.len,N]
    rw[this];exact G
   have L:(bV (iC (bF Y) cm)) [some d,ql u,F,s] S=some (true,S):=by simp only[bV,oy,DB,ND,vC,hB,v.len];rw[show L6 (.int (xs.length:Int)) (.int 1)=some (.bl (decide ((1:Int) < xs.length))) from rfl,fE hc];rfl
   rw[cW (L2:=[qr S.length,ql u,qr S.length,y]) (x:=p) L]
   .exact g1
   .rw [ez,gz (x:=[some d,ql u,qr S.length,s]) (a:=S++[.lst []]) rfl,gz e4];exact e3
theorem zg(p:2≤n)(x:xs≠[])(f:xs.length≤1000)(W:Wt Q xs w):∃z s,Q s z/\w=s+1/\jH (aF Gv Att O Rs Tb n "_law_folded") [.lst xs,.lst u]=some z:=by
 obtain⟨n,rfl⟩:=eE (n:=n) (by first | assumption | lia);obtain⟨d,S,c,m,z,e,a,⟨s,v,q,b,rfl⟩⟩:=zh hw o B (aF Gv Att O Rs Tb (n+1)) (aF Gv Att O Rs Tb n) (cO Gv Att O Rs Tb (n+1)) 1000 xs w (.p (.lst xs)) [] none none x f f (.inl rfl) W;cases b;refine⟨z,s,q,rfl,?_⟩;obtain⟨t,r,_⟩:=a.read (k:=S.length) (fun e=>by
  subst e;rcases a with y|⟨j,y,h⟩
  .cases y
  .cases y;rcases h with h|h<;>simp at h)
 rw[n9,cb];simp[jl,dR,e,r]
end
theorem Wt.append:∀{xs y:List P}{a b:Nat},Wt Q xs a->Wt Q y b->Wt Q (xs++y) (a+b)
 | [],y,a,b,h,g=>by have:a=0:=h;subst this;simpa using g
 |x::xs,y,a,b,h,g=>by obtain⟨s,w,q,h,rfl⟩:=h;exact⟨s,w+b,q,h.append g,by lia⟩
theorem Wt.split:∀{xs y:List P}{w:Nat},Wt Q (xs++y) w->∃a b,Wt Q xs a/\Wt Q y b/\w=a+b
 | [],y,w,h=>⟨0,w,rfl,h,by lia⟩
 |x::xs,y,w,h=>by obtain⟨s,k,q,h,rfl⟩:=h;obtain⟨a,b,e,n,rfl⟩:=Wt.split h;exact⟨s+1+a,b,⟨s,a,q,e,rfl⟩,n,by lia⟩
theorem Wt.len:∀{xs:List P}{w:Nat},Wt Q xs w->xs.length≤w
 | [],w,h=>by simp
 |x::xs,w,h=>by
  obtain⟨s,a,q,h,rfl⟩:=h;have:=h.len
  simp only[aS];lia
theorem Cu(p:List A)(v:A):L2.atI (p++[v]) (-1)=some v:=by unfold L2.atI L2.ya;rw[ar (by lia),ai (by simp;lia)];show(p++[v])[((-1:Int)+((p++[v]).length:Nat)).toNat]? = _;rw[show((-1:Int)+((p++[v]).length:Nat)).toNat=p.length by simp;lia];simp
theorem oq(p:List A)(u v:A):L2.atI (p++[u,v]) (-2)=some u:=by unfold L2.atI L2.ya;rw[ar (by lia),ai (by simp;lia)];show(p++[u,v])[((-2:Int)+((p++[u,v]).length:Nat)).toNat]? = _;rw[show((-2:Int)+((p++[u,v]).length:Nat)).toNat=p.length by simp;lia];simp
theorem ln(p:List A)(u v:A):L2.atI (p++[u,v]) (-1)=some v:=by have:=Cu (p++[u]) v;simpa using this
theorem Gw(h:1 < xs.length):∃p u v,xs=p++[u,v]:=by
 have x:xs≠[]:=λe=>by rw[e]at h;simp at h
 have a:=w5 x;have n:xs.dropLast≠[]:=λe=>by have:=dz eo e;rw[wP]at this;simp at this;lia
 have s:=w5 n;exact⟨xs.dropLast.dropLast,xs.dropLast.getLast n,xs.getLast x,by
  have:xs=xs.dropLast.dropLast++[xs.dropLast.getLast n]++[xs.getLast x]:=by rw[s,a]
  simpa using this⟩
def Qt(s:Nat)(p:P):Prop:=∃t:T,t.gd/\t.sz=s/\p=t.tp
noncomputable def Fu:List P:=[.str "plus",.str "minus",.str "times"]
theorem Nl(k:Int):∃m:Mk,m.lvl≠0/\L2.atI Fu (k % 3)=some (.str m.kd):=by
 have x:=dY k (show(3:Int)≠0 by decide);have a:=eJ k (show(0:Int) < 3 by decide);have:k % 3=0\/k % 3=1\/k % 3=2:=by lia
 rcases this with h|h|h<;>rw[h]
 .exact⟨.pl,by decide,by kernel_rfl⟩
 .exact⟨.mi,by decide,by kernel_rfl⟩
 .exact⟨.ti,by decide,by kernel_rfl⟩
noncomputable def f3(k:Int):Mk:=Classical.choose (Nl k)
theorem FL(k:Int):L2.atI Fu (k % 3)=some (.str (f3 k).kd):=(Classical.choose_spec (Nl k)).2
theorem K5(k:Int):(f3 k).lvl≠0:=(Classical.choose_spec (Nl k)).1
theorem Qt.bin(n:m.lvl≠0)(h:Qt a x)(g:Qt b y):Qt (a+b+1) (.tup [.str m.kd,x,y]):=by obtain⟨t,s,f,rfl⟩:=h;obtain⟨u,e,k,rfl⟩:=g;exact⟨.bin m t u,⟨n,s,e⟩,by simp only[T.sz];lia,rfl⟩
def NL(N:List (List Nat)):P:=.lst (N.map λc=>P.str (aG c))
theorem x9(r:2≤n)(x:N≠[])(H:∀c ∈ N,Nam c)(q:Int):∃t:T,t.gd/\t.sz=1/\jH (aF Gv Att O Rs Tb n "_law_leaf") [NL N,.int q]=some t.tp:=by
 obtain⟨n,rfl⟩:=eE (n:=n) (by first|assumption|lia);by_cases h:q % 2=0
 .obtain⟨c,k,e⟩:=oo x (q / 2);have l:0 < N.length:=kh.mpr x;have s:L2.atI (N.map λc=>P.str (aG c)) (q / 2 % (N.length:Int))=some (.str (aG c)):=by
   unfold L2.atI at e ⊢;rw[dL];cases a:L2.ya N.length (q / 2 % (N.length:Int)) with
   |none=>rw[a]at e;cases e
   |some j=>rw[a]at e;simp only[eK]at e ⊢;rw[jr,e];rfl
  refine⟨.nam c,H c k,rfl,?_⟩;rw[iq,cb];simp[fB,NL,h,bE,bX,l,s,few,T.tp]
 .have f:0≤q / 2 % 10/\q / 2 % 10 < 10:=⟨dY _ (by decide),eJ _ (by decide)⟩;have b:0≤q / 20 % 1000/\q / 20 % 1000 < 1000:=⟨dY _ (by decide),eJ _ (by decide)⟩;have m:0≤q / 16 % 4/\q / 16 % 4 < 4:=⟨dY _ (by decide),eJ _ (by decide)⟩;have d:q / 16 % 4 / 3=0\/q / 16 % 4 / 3=1:=by lia
  rcases d with d|d
  .refine⟨.num (q / 2 % 10).toNat,show(q / 2 % 10).toNat < 1000 by lia,rfl,?_⟩;have e:((q / 2 % 10).toNat:Int)=q / 2 % 10:=by lia
   rw[iq,cb];simp[fB,NL,h,d,few,T.tp,e]
  .refine⟨.num (q / 20 % 1000).toNat,show(q / 20 % 1000).toNat < 1000 by lia,rfl,?_⟩;have e:((q / 20 % 1000).toNat:Int)=q / 20 % 1000:=by lia
   rw[iq,cb];simp[fB,NL,h,d,few,T.tp,e]
theorem KR(x:List P):fy "tuple" (.tup x)=true:=by first|rfl|kernel_rfl
theorem KU(x:Int):fy "tuple" (.int x)=false:=by first|rfl|kernel_rfl
theorem KS(x:Str):fy "tuple" (.str x)=false:=by first|rfl|kernel_rfl
theorem JD(t:T):fy "tuple" t.tp=true:=by obtain⟨r,e⟩:=Od t;rw[e];exact KR _
theorem Ld(x y:P):g9 (.tup [x,y]) (some 1) none=some (.tup [y]):=by kernel_rfl
theorem NQ(x y z:P):g9 (.tup [x,y,z]) (some 1) none=some (.tup [y,z]):=by kernel_rfl
theorem kD:∀(t:T)(n:Nat),t.dp+2≤n->jH (aF Gv Att O Rs Tb n "_law_depth") [t.tp]=some (.int (t.dp:Int))
 | .num k,n,h=>by obtain⟨n,rfl⟩:=eE (n:=n) (by first|assumption|lia);rw[gQ,cb];simp[eR,dO,T.tp,T.dp,bI,dv,Ld,et,KU]
 | .nam k,n,h=>by obtain⟨n,rfl⟩:=eE (n:=n) (by first|assumption|lia);rw[gQ,cb];simp[eR,dO,T.tp,T.dp,bI,dv,Ld,et,KS]
 | .bin m l r,n,h=>by
  simp only[T.dp]at h;obtain⟨n,rfl⟩:=eE (n:=n) (by first|assumption|lia);have e:=kD l (n+1) (by lia);have x:=kD r (n+1) (by lia);have i:=JD l;have a:=JD r;have s:g_ [.int 0,.int (l.dp:Int)]=some (.int (l.dp:Int)):=by
   simp only[g_];first
    |(rw[ar (by lia)])
    |(congr 2;lia)
  have f:g_ [.int (l.dp:Int),.int (r.dp:Int)]=some (.int ((max l.dp r.dp:Nat):Int)):=by
   simp only[g_];split
   .congr 2;lia
   .congr 2;lia
  rw[gQ,cb];simp[eR,dO,T.tp,T.dp,bI,dv,NQ,et,i,a,e,x,s,f]
theorem yi:∀t:T,t.dp≤t.sz
 | .num _=>aw _
 | .nam _=>aw _
 | .bin _ l r=>by
  have:=yi l;have:=yi r
  simp only[T.dp,T.sz];lia
section
variable{N:List (List Nat)}(hk:N≠[])(H:∀c ∈ N,Nam c)
include hk H
theorem Ax(ι:Str->GF)(υ:Str->GX)(hn:100≤n){o:Int}(hm:o≤20)(a:Int){m:Int}(R e:Option Ev.D)(L:xs≠[])(S:Wt Qt xs w)(C:(w:Int)≤2 * m)(D:m≤o) :
  ∃(j:List P)(w':Nat)(y:Int)(A B:Option Ev.D),bz (aF Gv Att O Rs Tb n) ι υ [qp (NL N),qp cl,qi o,ql Fu,qr 0,qi m,qi a,R,e] [.lst (xs.map .p)] =
   some (.nx,[qp (NL N),qp cl,qi o,ql Fu,qr 0,qi y,qi a,A,B],[.lst (j.map .p)])/\j≠[]/\Wt Qt j w'/\(w':Int)≤2 * y/\y≤o:=by
 obtain⟨r,r0,g⟩:=i8 (n:=n) (by lia) a (p:=3) (by lia) (by lia);have Z:=S.len;have f:xs.length≤1000000:=by lia
 obtain⟨t,t1,t2,I⟩:=x9 (n:=n) (by lia) hk H (r / 16);have l:Wt Qt (xs++[t.tp]) (w+2):=S.append ⟨1,0,⟨t,t1,t2,rfl⟩,rfl,rfl⟩;have h:((1:Int) < (xs.length:Int))=(1 < xs.length):=by simp;lia
 by_cases c:1 < xs.length
 .by_cases k:1 < r % 5
  .obtain⟨s,u,v,rfl⟩:=Gw c;obtain⟨V,wb,p1,⟨E,w1,q1,⟨G,w2,q2,q3,rfl⟩,rfl⟩,rfl⟩:=S.split;have T:w2=0:=q3;subst T;obtain⟨F,x2,x3,rfl⟩:=id q1;obtain⟨z,y2,y3,rfl⟩:=id q2;obtain⟨W,b⟩:∃d:Int,jH (aF Gv Att O Rs Tb n "_law_depth") [F.tp]=some (.int d):=⟨_,kD F n (by have:=yi F;lia)⟩;obtain⟨X,q⟩:∃d:Int,jH (aF Gv Att O Rs Tb n "_law_depth") [z.tp]=some (.int d):=⟨_,kD z n (by have:=yi z;lia)⟩;have Q:s.length≤1000000:=by simp at f;lia
   have K:s.length+2≤1000000:=by simpa using f
   have M:(1:Int) < (s.length:Int)+2:=by lia
   by_cases i:(if X < W then W else X) < 7
   .refine⟨s++[.tup [.str ((f3 (r / 5)).kd),F.tp,z.tp]],V+(E+1+(G+1+0)),m,qi r,qp (z.tp),?_,by simp,p1.append ⟨E+G+1,0,Qt.bin (K5 _) q1 q2,rfl,by lia⟩,C,D⟩;simp[bz,g,bE,ln,oq,b,q,g_,M,k,i,eH,FL,Q]
   .by_cases x:m < o
    .refine⟨s++[F.tp,z.tp]++[t.tp],V+(E+1+(G+1+0))+2,m+1,qi r,e,?_,by simp,l,by lia,by lia⟩;simp[bz,g,bE,ln,oq,b,q,g_,M,k,i,eH,I,x,K]
    .refine⟨s++[F.tp,z.tp],V+(E+1+(G+1+0)),m,qi r,e,?_,L,S,C,D⟩;simp[bz,g,bE,ln,oq,b,q,g_,M,k,i,eH,x]
  .by_cases x:m < o
   .refine⟨xs++[t.tp],w+2,m+1,qi r,e,?_,by simp,l,by lia,by lia⟩;simp[bz,g,bE,h,c,k,eH,I,x,f]
   .refine⟨xs,w,m,qi r,e,?_,L,S,C,D⟩;simp[bz,g,bE,h,c,k,eH,x]
 .by_cases x:m < o
  .refine⟨xs++[t.tp],w+2,m+1,qi r,e,?_,by simp,l,by lia,by lia⟩;simp[bz,g,bE,h,c,eH,I,x,f]
  .refine⟨xs,w,m,qi r,e,?_,L,S,C,D⟩;simp[bz,g,bE,h,c,eH,x]
theorem Az(q:Str->GF)(v:Str->GX)(S:100≤n){o:Int}(z:o≤20):∀(s:List Int)(xs:List P)(w:Nat)(m:Int)(c u t:Option Ev.D),xs≠[]->Wt Qt xs w->(w:Int)≤2 * m->m≤o ->
  ∃(x:List P)(p:Nat)(y:Int)(d h e:Option Ev.D),et (g6 6) (bz (aF Gv Att O Rs Tb n) q v) (s.map .int)
   [qp (NL N),qp l,qi o,ql Fu,qr 0,qi m,c,u,t] [.lst (xs.map .p)] =
   some (.nx,[qp (NL N),qp l,qi o,ql Fu,qr 0,qi y,d,h,e],[.lst (x.map .p)])/\x≠[]/\Wt Qt x p/\(p:Int)≤2 * y/\y≤o:=by
 intro s;induction s with
 |nil=>intro xs w m c u t k f b r;exact⟨xs,w,m,c,u,t,rfl,k,f,b,r⟩
 |cons a s K=>intro xs w m c u t k f b r;obtain⟨W,T,B,D,Q,j,E,G,I,L⟩:=Ax hk H q v S (cl:=l) z a u t k f b r;obtain⟨V,R,A,i,C,M,g,F⟩:=K W T B (qi a) D Q E G I L;exact⟨V,R,A,i,C,M,(n8 rfl j).trans g,F⟩
theorem Gs{n:Nat}(M:102≤n)(c:List Int)(l:c.length≤100):∃t:T,t.gd/\t.sz≤27/\jH (aF Gv Att O Rs Tb n "_law_sum") [NL N,.lst (c.map .int),.int 14]=some (t.tp):=by obtain⟨n,rfl⟩:=eE (n:=n) (by first|assumption|lia);obtain⟨r,Q,v⟩:=i8 (n:=n+1) (by lia) (c.length:Int) (p:=7) (by lia) (by lia);obtain⟨t,A,B,d⟩:=x9 (n:=n+1) (by lia) hk H r;obtain⟨xs,w,m,C,q,o,e,j,h,G,I⟩:=Az hk H (aF Gv Att O Rs Tb n) (cO Gv Att O Rs Tb (n+1)) (n:=n+1) (by lia) (l:=.lst (c.map .int)) (o:=14) (by lia) c [t.tp] 2 1 none none none (by simp) ⟨1,0,⟨t,A,B,rfl⟩,rfl,rfl⟩ (by lia) (by lia);have L:=h.len;obtain⟨z,s,⟨P,i,D,rfl⟩,E,g⟩:=zg (u:=Fu) (f:=λk=>(f3 k).kd) (λk _=>FL k) (by decide) (λk a b x y _ F K=>Qt.bin (K5 _) F K) (n:=n+1) (by lia) j (by lia) h;refine⟨P,i,by lia,?_⟩;have S:rB 9 (.ref 0) [.lst (xs.map .p)]=some (.lst xs,[.fz (.lst xs)]):=xP rfl;unfold Fu at e g;rw[uc,cb];simp only[aU,df]at e;simp[lG,bE,bX,v,d,e,S,g]
end
end My
namespace My
open PySem L2 Ev
def wB(c:List Nat):Bool:=match FI (.str (aG c)) (.tup [.str "or",.str "and",.str "not",.str "true"]) with
 |some b=>!b
 |none=>false
def E4(c:List Nat):Bool:=!c.isEmpty && decide (c.length≤10) && c.all (λx=>decide (97≤x) && decide (x < 123)) && wB c
theorem rY:∀c < 123,97≤c->eO c "abcdefghijklmnopqrstuvwxyz"=true/\eO c "0123456789"=false/\eO c " "=false:=by decide +kernel
theorem Bk(h:E4 c=true):Nam c:=by
 simp only[E4,aC,jF,b9,mu]at h;obtain⟨⟨⟨k,f⟩,s⟩,n⟩:=h;refine⟨λx a=>(by have:=s x a;lia),λz=>(by rw[z]at k;cases k),f,λx a=>(rY x (s x a).2 (s x a).1).1,λx a=>(rY x (s x a).2 (s x a).1).2.1,λx a=>(rY x (s x a).2 (s x a).1).2.2,λS=>?_⟩;show(FI (.str (aG c)) (.tup [.str "or",.str "and",.str "not",.str "true"])).map P.bl=some (.bl false);unfold wB at n;cases e:FI (.str (aG c)) (.tup [.str "or",.str "and",.str "not",.str "true"]) with
 |none=>rw[e]at n;cases n
 |some b=>
  rw[e]at n;cases b with
  |false=>rfl
  |true=>cases n
theorem B3:∀k:Nat,k < 8->∀a:Nat,a < 9->∀s:Nat,s < 3->E4 (List.replicate (a+1) (97+k)++[[120,118,122].getD s 0])=true:=by decide +kernel
theorem Em:∀k:Nat,k < 8->∀p:Nat,p < 10->E4 (List.replicate p 109++((97+k)::List.replicate (9-p) 109))=true:=by decide +kernel
theorem Nq:∀k:Nat,k < 8->mY (.str "abcdefgh") (.int (k:Int))=some (.str (aG [97+k])):=by
 intro k h;match k,h with
 |0,_=>kernel_rfl
 |1,_=>kernel_rfl
 |2,_=>kernel_rfl
 |3,_=>kernel_rfl
 |4,_=>kernel_rfl
 |5,_=>kernel_rfl
 |6,_=>kernel_rfl
 |7,_=>kernel_rfl
theorem MY:∀s:Nat,s < 3->mY (.str "xvz") (.int (s:Int))=some (.str (aG [[120,118,122].getD s 0])):=by
 intro k h;match k,h with
 |0,_=>kernel_rfl
 |1,_=>kernel_rfl
 |2,_=>kernel_rfl
theorem rL(c:Nat):∀a:Nat,a < 11->jN (.str (aG [c])) (.int (a:Int))=some (.str (aG (List.replicate a c))):=by
 intro k h;match k,h with
 |0,_=>kernel_rfl
 |1,_=>kernel_rfl
 |2,_=>kernel_rfl
 |3,_=>kernel_rfl
 |4,_=>kernel_rfl
 |5,_=>kernel_rfl
 |6,_=>kernel_rfl
 |7,_=>kernel_rfl
 |8,_=>kernel_rfl
 |9,_=>kernel_rfl
 |10,_=>kernel_rfl
theorem Pf:("m":Str)=aG [109]:=by decide +kernel
theorem Bn(q:Int)(m:Nat)(e:0 < m):∃a:Nat,a < m/\q % (m:Int)=(a:Int):=by have h:=dY q (show(m:Int)≠0 by lia);have x:=eJ q (show(0:Int) < (m:Int) by lia);exact⟨(q % (m:Int)).toNat,by lia,by lia⟩
theorem Bj{n:Nat}(z:2≤n){k:Nat}(b:k < 8)(q:Int):∃c,Nam c/\jH (aF Gv Att O Rs Tb n "_law_named") [.int (k:Int),.int q]=some (.str (aG c)):=by
 obtain⟨n,rfl⟩:=eE (n:=n) (by first|assumption|lia);have m:=Nq k b;by_cases d:q % 2=0
 .obtain⟨a,g,r⟩:=Bn (q / 2) 9 (by decide);obtain⟨s,w,v⟩:=Bn (q / 18) 3 (by decide);have x:=MY s w;have e:=rL (97+k) (a+1) (by lia);have h:((a+1:Nat):Int)=1+(a:Int):=by lia
  rw[h]at e;have f:cM (.str (aG (List.replicate (a+1) (97+k)))) (.str (aG [[120,118,122].getD s 0]))=some (.str (aG (List.replicate (a+1) (97+k)++[[120,118,122].getD s 0]))):=cy (by simp;lia);refine⟨_,Bk (B3 k b a g s w),?_⟩;rw[show((9:Nat):Int)=9 from rfl]at r;rw[show((3:Nat):Int)=3 from rfl]at v;rw[jM,cb];generalize [120,118,122].getD s 0=sc at *
  generalize List.replicate (a+1) (97+k)=R at *
  simp[gS,d,m,r,v,x,e,-bP,f]
 .obtain⟨p,i,t⟩:=Bn (q / 2) 10 (by decide);have x:=rL 109 p (by lia);have e:=rL 109 (9-p) (by lia);have h:((9-p:Nat):Int)=9-(p:Int):=by lia
  rw[h]at e;have f:cM (.str (aG (List.replicate p 109))) (.str (aG [97+k]))=some (.str (aG (List.replicate p 109++[97+k]))):=cy (by simp;lia);have u:cM (.str (aG (List.replicate p 109++[97+k]))) (.str (aG (List.replicate (9-p) 109)))=some (.str (aG (List.replicate p 109++((97+k)::List.replicate (9-p) 109)))):=by rw[cy (by simp;lia)];simp
  refine⟨_,Bk (Em k b p i),?_⟩;rw[show((10:Nat):Int)=10 from rfl]at t;rw[jM,cb];generalize List.replicate p 109++((97+k)::List.replicate (9-p) 109)=R2 at *
  generalize List.replicate p 109++[97+k]=l at *
  generalize List.replicate p 109=j at *
  generalize List.replicate (9-p) 109=y at *
  simp[gS,d,m,t,Pf,x,e,-bP,f,u]
noncomputable def AJ(n:List Int):P:=.ro (n.map .int)
variable{n:Nat}
theorem Ct(b:2≤n)(s:List Int){k:Int}(x:0≤k)(f:k < 1000):∃r:Int,jH (aF Gv Att O Rs Tb n "_law_at") [AJ s,.int k]=some (.int r):=by
 obtain⟨n,rfl⟩:=eE (n:=n) (by first|assumption|lia);have m:iH 23 k=true:=ed (by decide) (by lia);by_cases h:k < (s.length:Int)
 .have a:k.toNat < s.length:=by lia
  refine⟨s[k.toNat],?_⟩;have e:L2.atI (s.map P.int) k=some (.int s[k.toNat]):=cN x (by simp[a]);rw[oa,cb];simp[j_,AJ,bE,bX,h,e]
 .refine⟨23 * k+6,?_⟩;rw[oa,cb];simp[j_,AJ,bE,bX,h,m]
theorem EY(f:h->e)(x:List h)(a b:Option Int):Ev.cut (x.map f) a b=(Ev.cut x a b).map f:=by unfold Ev.cut;rw[dL,List.map_take,List.map_drop]
theorem EZ(x:List h)(a b:Option Int):(Ev.cut x a b).length≤x.length:=by unfold Ev.cut;rw[cG,eL];lia
theorem va(H:2≤n)(q:Int)(m:Nat)(G:m≤8)(L:Lc)(o:L.length=6)(w:L[1]? = some (qi q)) :
  ∃N:List (List Nat),N.length=m/\(∀c ∈ N,Nam c)/\jg (g6 4) Cs (e_ (aF Gv Att O Rs Tb n "_law_named") (v2 uv (bv cJ nu))) (Ev.intsFrom 0 m) L []=some (N.map λc=>P.str (aG c),[]):=by
 obtain⟨s,e,u,j⟩:=oj (g:=g6 4) (e:=e_ (aF Gv Att O Rs Tb n "_law_named") (v2 uv (bv cJ nu))) (S:=[]) (Inv:=fun t=>∃d,t=L.set 4 d) (Q:=fun y=>∃c,Nam c/\y=.str (aG c)) (xs:=Ev.intsFrom 0 m) (L:=L) (fun v F t l=>by
   obtain⟨d,rfl⟩:=l;obtain⟨i,rfl,E⟩:=t4 F;obtain⟨c,a,p⟩:=Bj H (k:=i) (by lia) (q / 4);simp only[Int.zero_add];have D:((L.set 4 d).set 4 (qi (i:Int)))[4]? = some (qi (i:Int)):=by rw[dm (by simp[o])]
   have C:((L.set 4 d).set 4 (qi (i:Int)))[1]? = some (qi q):=by rw[cr (by decide),cr (by decide)];exact w
   exact⟨_,.str (aG c),rfl,⟨_,wF ..⟩,by simp[-wF,D,C,p],c,a,rfl⟩) ⟨L[4],(List.set_getElem_self (by lia)).symm⟩
 have f:∀s:List P,(∀y ∈ s,∃c,Nam c/\y=.str (aG c))->∃N:List (List Nat),N.length=s.length/\(∀c ∈ N,Nam c)/\s=N.map λc=>P.str (aG c):=by
  intro s;induction s with
  |nil=>intro _;exact⟨[],rfl,λ_ z=>(by cases z),rfl⟩
  |cons y s B=>
   intro h;obtain⟨c,a,rfl⟩:=h y aZ;obtain⟨N,b,r,rfl⟩:=B λz A=>h z (a_ _ A)
   exact⟨c::N,by simpa using b,λx K=>(av.mp K).elim (λe=>e ▸ a) (r x),rfl⟩
 obtain⟨N,b,r,rfl⟩:=f s u;exact⟨N,by rw[b,j,t5],r,e⟩
theorem d7(h:fg a)(g:fg b):fg (a++b):=λc x=>(jq.mp x).elim (h c) (g c)
theorem dW(h:c < 128)(g:fg a):fg (c::a):=λd x=>(av.mp x).elim (λe=>e ▸ h) (g d)
theorem jx:fg []:=λ_ h=>nomatch h
theorem yA(g:Nat):fg (List.replicate g 32):=λc h=>by rw[(mH.mp h).2];decide
theorem Iq(h:n < 1000):fg (dg n)/\(dg n).length≤3:=by have c:=E3 n h;simp only[Ow,aC,jF,b9,mu]at c;obtain⟨⟨⟨_,a⟩,e⟩,_⟩:=c;exact⟨λx s=>w9 (e x s).2 (by decide),a⟩
theorem Fn(h:Nam c):fg c:=h.lt
theorem vp(a:fg h)(q:Int)(l:h.length≤900):∃s,fg s/\s.length≤h.length+3/\(q % 7=0->cM (.str (aG [40])) (.str (aG h))=some (.str (aG (40::h)))/\cM (.str (aG (40::h))) (.str (aG [32,41]))=some (.str (aG s)))/\(¬q % 7=0->s=h):=by
 by_cases c:q % 7=0
 .exact⟨(40::h)++[32,41],d7 (dW (by decide) a) (dW (by decide) (dW (by decide) jx)),by simp,λ_=>⟨cy (by simp;lia),cy (by simp;lia)⟩,λz=>absurd c z⟩
 .exact⟨h,a,by lia,λz=>absurd z c,λ_=>rfl⟩
def Dv(h:Str->GF):ES:=bS (bV (dB (e_ (h "_law_level") (v1 (aY cU cm))) (e_ (h "_law_level") (v1 cU)))) (aP 4 (U (ag (ag (vt "(") uv) (vt ")")))) c_
def Du(h:Str->GF):ES:=bS (cE (bV (Fs (e_ (h "_law_level") (v1 (aY cU iD))) (e_ (h "_law_level") (v1 cU)))) (bV (dB (e_ (h "_law_level") (v1 (aY cU iD))) uL))) (aP 5 (U (ag (ag (vt "( ") (vv 5)) (vt ")")))) c_
def Lz:ES:=aj (bS (aO (U (bn cJ (vi 7))) (U jy)) (bw (U (ag (ag (vt "(") kR) (vt " )")))) c_) (bw iE)
def MI(h:Str->GF):ES:=aj (aP 3 (U (d2 (vt " ") (aY (eT (v4 jy cm cm iD)) (bn (e_ (h "_law_mix") (v2 cJ cm)) nu)))))
  (aj (aP 4 (U (e_ (h "_law_written") (v2 (aY cU cm) (e_ (h "_law_mix") (v2 cJ iD))))))
  (aj (aP 5 (U (e_ (h "_law_written") (v2 (aY cU iD) (e_ (h "_law_mix") (v2 cJ uL))))))
  (aj (Dv h) (aj (Du h) (aP 2 (U (ag (ag (ag (ag uv iY) (aY (nC (dU "plus" (vt "+") (dU "minus" (vt "-") (dU "times" (vt "*") vu)))) (aY cU jy))) iY) (vv 5))))))))
theorem Ac:∀(t:T),t.gd->t.sz≤30->∀n,t.dp+3≤n->∀q:Int,∃b,fg b/\b.length+13≤26 * t.sz/\jH (aF Gv Att O Rs Tb n "_law_written") [t.tp,.int q]=some (.str (aG b))
 | .num k,h,L,n,I,q=>by
  obtain⟨n,rfl⟩:=eE (n:=n) (by first|assumption|lia);have R:=Cm h;obtain⟨a1,a2⟩:=Iq h;obtain⟨b,i,M,j,o⟩:=vp a1 q (by lia);refine⟨b,i,by simp[T.sz];lia,?_⟩;rw[eZ,cb];by_cases c:q % 7=0
  .obtain⟨s,f⟩:=j c;simp[cq,T.tp,R,c,DW,AL,-bP,s,f]
  .have d:=o c;simp[cq,T.tp,R,c,d]
 | .nam k,h,L,n,I,q=>by
  obtain⟨n,rfl⟩:=eE (n:=n) (by first|assumption|lia);have hle:=Nam.le h;obtain⟨b,i,M,j,o⟩:=vp (Fn h) q (by lia);refine⟨b,i,by simp[T.sz];lia,?_⟩;rw[eZ,cb];by_cases c:q % 7=0
  .obtain⟨s,f⟩:=j c;simp[cq,T.tp,c,DW,AL,-bP,s,f]
  .have d:=o c;simp[cq,T.tp,c,d]
 | .bin m l r,h,L,n,I,q=>by
  simp only[T.dp]at I;simp only[T.sz]at L;obtain⟨n,rfl⟩:=eE (n:=n) (by first|assumption|lia);obtain⟨s,_,m1⟩:=i8 (n:=n+1) (by lia) q (p:=1) (by decide) (by decide);obtain⟨f,_,m2⟩:=i8 (n:=n+1) (by lia) q (p:=2) (by decide) (by decide);obtain⟨d3,_,m3⟩:=i8 (n:=n+1) (by lia) q (p:=3) (by decide) (by decide);obtain⟨x,Z,l1,w1⟩:=Ac l h.2.1 (by lia) (n+1) (by lia) f;obtain⟨y,s2,l2,w2⟩:=Ac r h.2.2 (by lia) (n+1) (by lia) d3;obtain⟨gq,g,hg,g1,g2⟩:=HE s;have H:=nW (n:=n+1) (by lia) h.2.1;have S:=nW (n:=n+1) (by lia) h.2.2;have v:=nW (n:=n+1) (by lia) (t:=.bin m l r) h;have K:=KO h.1;have cl:=tT h.2.1;have N:=tT h.2.2;have k3:=@Hd m;have k4:=@Hf m;have kd:=K6 h.1;have E:m.ch < 128:=by cases m<;>decide
  obtain⟨u,au,hu,P,B⟩:∃u:List Nat,fg u/\u.length≤x.length+2/\(l.lv < m.lvl->cM (.str (aG [40])) (.str (aG x))=some (.str (aG (40::x)))/\cM (.str (aG (40::x))) (.str (aG [41]))=some (.str (aG u)))/\(¬l.lv < m.lvl->u=x):=by
   by_cases c:l.lv < m.lvl
   .exact⟨(40::x)++[41],d7 (dW (by decide) Z) (dW (by decide) jx),by simp,λ_=>⟨cy (by simp;lia),cy (by simp;lia)⟩,λz=>absurd c z⟩
   .exact⟨x,Z,by lia,λz=>absurd z c,λ_=>rfl⟩
  obtain⟨z,az,hz',C,D⟩:∃u:List Nat,fg u/\u.length≤y.length+3/\(r.lv≤m.lvl->cM (.str (aG [40,32])) (.str (aG y))=some (.str (aG (40::32::y)))/\cM (.str (aG (40::32::y))) (.str (aG [41]))=some (.str (aG u)))/\(¬r.lv≤m.lvl->u=y):=by
   by_cases c:r.lv≤m.lvl
   .exact⟨(40::32::y)++[41],d7 (dW (by decide) (dW (by decide) s2)) (dW (by decide) jx),by simp,λ_=>⟨cy (by simp;lia),cy (by simp;lia)⟩,λz=>absurd c z⟩
   .exact⟨y,s2,by lia,λz=>absurd z c,λ_=>rfl⟩
  have j1:cM (.str (aG u)) (.str (aG (List.replicate g 32)))=some (.str (aG (u++List.replicate g 32))):=cy (by simp;lia);have j2:cM (.str (aG (u++List.replicate g 32))) (.str (aG [m.ch]))=some (.str (aG (u++List.replicate g 32++[m.ch]))):=cy (by simp;lia);have j3:cM (.str (aG (u++List.replicate g 32++[m.ch]))) (.str (aG (List.replicate g 32)))=some (.str (aG (u++List.replicate g 32++[m.ch]++List.replicate g 32))):=cy (by simp;lia);have j4:cM (.str (aG (u++List.replicate g 32++[m.ch]++List.replicate g 32))) (.str (aG z))=some (.str (aG (u++List.replicate g 32++[m.ch]++List.replicate g 32++z))):=cy (by simp;lia);have w:fg (u++List.replicate g 32++[m.ch]++List.replicate g 32++z):=d7 (d7 (d7 (d7 au (yA g)) (dW E jx)) (yA g)) az;have Q:(u++List.replicate g 32++[m.ch]++List.replicate g 32++z).length≤x.length+y.length+10:=by simp;lia
  obtain⟨b,i,M,j,o⟩:=vp w q (by lia);refine⟨b,i,by simp only[T.sz];lia,?_⟩;have V:((l.lv-4:Nat):Int) < ((m.lvl-4:Nat):Int)↔l.lv < m.lvl:=by rcases K with e|e<;>rcases cl with a|a|a<;>rw[e,a]<;>decide
  have W:(((r.lv-4:Nat):Int)≤((m.lvl-4:Nat):Int)/\((r.lv-4:Nat):Int) < 3)↔r.lv≤m.lvl:=by rcases K with e|e<;>rcases N with a|a|a<;>rw[e,a]<;>decide
  change jH _ _=some (.int ((m.lvl-4:Nat):Int)) at v;generalize u++List.replicate g 32++[m.ch]++List.replicate g 32++z=A at *
  generalize u++List.replicate g 32++[m.ch]++List.replicate g 32=A4 at *
  generalize u++List.replicate g 32++[m.ch]=A3 at *
  generalize u++List.replicate g 32=A2 at *
  generalize List.replicate g 32=G at *
  rw[T.tp]at v ⊢;rw[eZ,cb];have q1:∀ψ ι υ,cq ψ ι υ=aj (bS (aO (U (aY cU jy)) (U (vt "number"))) (aP 2 (U (ck lF (v1 (aY cU cm))))) (bS (aO (U (aY cU jy)) (U (vt "name"))) (aP 2 (U (aY cU cm))) (MI ψ))) Lz:=λ_ _ _=>rfl;have e5:Lz [qt [.str m.kd,l.tp,r.tp],qi q,qs (aG A),qs (aG G),qs (aG u),qs (aG z)] []=some (.rt (.p (.str (aG b))),[qt [.str m.kd,l.tp,r.tp],qi q,qs (aG A),qs (aG G),qs (aG u),qs (aG z)],[]):=by
   by_cases c:q % 7=0
   .obtain⟨s,f⟩:=j c;simp[Lz,c,DW,AL,-bP,s,f]
   .have d:=o c;simp[Lz,c,d]
  have e1:Dv (aF Gv Att O Rs Tb (n+1)) [qt [.str m.kd,l.tp,r.tp],qi q,none,qs (aG G),qs (aG x),qs (aG y)] []=some (.nx,[qt [.str m.kd,l.tp,r.tp],qi q,none,qs (aG G),qs (aG u),qs (aG y)],[]):=by
   by_cases c:l.lv < m.lvl
   .obtain⟨s,f⟩:=P c;simp[Dv,H,v,V.mpr c,DW,JY,-bP,s,f]
   .have d:=B c;have F:=mt V.mp c;simp[Dv,H,v,F,d]
  have e2:Du (aF Gv Att O Rs Tb (n+1)) [qt [.str m.kd,l.tp,r.tp],qi q,none,qs (aG G),qs (aG u),qs (aG y)] []=some (.nx,[qt [.str m.kd,l.tp,r.tp],qi q,none,qs (aG G),qs (aG u),qs (aG z)],[]):=by
   by_cases c:r.lv≤m.lvl
   .obtain⟨s,f⟩:=C c;have X:=W.mpr c;simp[Du,S,v,X.1,X.2,JZ,JY,-bP,s,f]
   .have d:=D c;have F:¬((r.lv-4:Nat):Int)≤((m.lvl-4:Nat):Int):=λz=>c (W.mp ⟨z,by rcases K with e|e<;>rcases N with a|a|a<;>rw[e,a]at z<;>rw[a]<;>first|decide|exact absurd z (by decide)⟩);simp[Du,S,v,F,d]
  have e3:MI (aF Gv Att O Rs Tb (n+1)) [qt [.str m.kd,l.tp,r.tp],qi q,none,none,none,none] []=some (.nx,[qt [.str m.kd,l.tp,r.tp],qi q,qs (aG A),qs (aG G),qs (aG u),qs (aG z)],[]):=by
   have f1:aP 3 (U (d2 (vt " ") (aY (eT (v4 jy cm cm iD)) (bn (e_ (aF Gv Att O Rs Tb (n+1) "_law_mix") (v2 cJ cm)) nu)))) [qt [.str m.kd,l.tp,r.tp],qi q,none,none,none,none] []=some (.nx,[qt [.str m.kd,l.tp,r.tp],qi q,none,qs (aG G),none,none],[]):=by simp[m1,g1,DX,g2]
   rw[MI,gz f1];rw[gz (x:=[qt [.str m.kd,l.tp,r.tp],qi q,none,qs (aG G),qs (aG x),none]) (a:=[]) (by simp[m2,w1])];rw[gz (x:=[qt [.str m.kd,l.tp,r.tp],qi q,none,qs (aG G),qs (aG x),qs (aG y)]) (a:=[]) (by simp[m3,w2])];rw[gz e1,gz e2];simp[HR,kd,-bP,j1,j2,j3,j4]
  rw[q1];simp only[aS,dh,aU,df,hZ,cT,mN,List.replicate,mM,eG];rw[gz (x:=[qt [.str m.kd,l.tp,r.tp],qi q,qs (aG A),qs (aG G),qs (aG u),qs (aG z)]) (a:=[]) (by simp[k3,k4,e3]),e5];rfl
end My
namespace My
open PySem L2 Ev
variable{a:List Nat}
theorem JV(c:a.length≤900)(k:Nat)(s:k≤a.length):g9 (.str (aG a)) none (some (k:Int))=some (.str (aG (a.take k))):=by have h:=CN (x:=aG a) (j:=(k:Int)) ⟨by lia,by rw[i0];lia⟩;have e:Txt.slice (aG a) none (some (k:Int))=jn (aG a) none (some (k:Int)):=rfl;simp only[g9,du];rw[ai (by rw[gG];lia),e,h,i0,ke,show((k:Int)-0).toNat=k by lia];rfl
theorem rK(c:a.length≤900)(k:Nat)(s:k≤a.length):g9 (.str (aG a)) (some (k:Int)) none=some (.str (aG (a.drop k))):=by have h:=CL (x:=aG a) (i:=(k:Int)) ⟨by lia,by rw[i0];lia⟩;have e:Txt.slice (aG a) (some (k:Int)) none=jn (aG a) (some (k:Int)) none:=rfl;simp only[g9,du];rw[ai (by rw[gG];lia),e,h,i0,show((a.length:Int)-(k:Int)).toNat=a.length-k by lia,show((k:Int)).toNat=k by lia,List.take_of_length_le (by rw[eL];lia)];rfl
theorem DS(c:a.length≤900):g9 (.str (aG a)) (some ((a.length+1:Nat):Int)) none=some (.str (aG [])):=by
 have h:=rK c a.length (aw _);rw[qG]at h;rw[<- h];have e:Txt.slice (aG a) (some ((a.length+1:Nat):Int)) none=Txt.slice (aG a) (some (a.length:Int)) none:=by
  show jn (aG a) (some ((a.length+1:Nat):Int)) none=jn (aG a) (some (a.length:Int)) none;have x:qq (some ((a.length+1:Nat):Int)) none 1 (aG a).length=qq (some (a.length:Int)) none 1 (aG a).length:=by rw[du];unfold qq;simp;congr 2;rw[ar (by lia),ar (by lia)];lia
  unfold jn;rw[x]
 simp only[g9,du];rw[ai (by rw[gG];lia),ai (by rw[gG];lia),e]
theorem Cv(h:fg a)(k:Nat):fg (a.take k):=λc x=>h c (qJ x)
theorem ut(h:fg a)(k:Nat):fg (a.drop k):=λc x=>h c (wQ x)
theorem AI(c:a.length≤900)(x:fg a)(k:Nat)(e:k≤a.length):∃d,g9 (.str (aG a)) (some ((k:Int)+1)) none=some (.str (aG d))/\fg d/\d.length+k≤a.length:=by
 rw[show(k:Int)+1=((k+1:Nat):Int) by lia];by_cases h:k=a.length
 .subst h;exact⟨[],DS c,jx,by simp⟩
 .exact⟨a.drop (k+1),rK c (k+1) (by lia),ut x _,by rw[eL];lia⟩
noncomputable def A1:Str:=" !\"#$&'()*+,-./0123456789:;<=>?@ABCDEFGHIJKLMNOPQRSTUVWXYZ[\\]^_`"
noncomputable def A2:Str:="abcdefghijklmnopqrstuvwxyz{|}~"
theorem AF:(A1++A2).cps.toList.length=94/\(A1++A2).cps.toList.all (λc=>decide (c < 128))=true:=by decide +kernel
theorem DR(c:Int):∃x,x < 128/\mY (.str (A1++A2)) (.int (c % 94))=some (.str (aG [x])):=by
 obtain⟨h,a⟩:=AF;obtain⟨x,n,e⟩:=oo (xs:=(A1++A2).cps.toList) (λz=>by rw[z]at h;cases h) c;rw[h]at e;have s:(A1++A2).length=94:=by rw[<- h];simp[jo]
 refine⟨x,bq (b9.mp a x n),?_⟩;rw[show((94:Nat):Int)=94 from rfl]at e;unfold mY;dsimp only;rw[s,ai (by decide),e];rfl
noncomputable def IW:List P:=[.str "a",.str "o",.str "0",.str "9",.str "+",.str "-",.str "*",.str "(",.str ")",.str "[",.str "]",.str "=",.str "<",.str "!",.str " ",.str "or",.str "not",.str "true"]
noncomputable def Lq:List (List Nat):=[[97],[111],[48],[57],[43],[45],[42],[40],[41],[91],[93],[61],[60],[33],[32],[111,114],[110,111,116],[116,114,117,101]]
theorem Gd:IW=Lq.map λc=>P.str (aG c):=by kernel_rfl
theorem DA:Lq.all (λc=>decide (c.length≤4) && c.all λx=>decide (x < 128))=true:=by decide +kernel
theorem Ge(q:Int):∃m,fg m/\m.length≤4/\L2.atI IW (q % 18)=some (.str (aG m)):=by
 obtain⟨x,h,e⟩:=oo (xs:=IW) (λz=>nomatch z) q;rw[Gd]at h;obtain⟨m,s,rfl⟩:=hV.mp h;have:=b9.mp DA m s
 rw[aC]at this;exact⟨m,λc a=>bq (b9.mp this.2 c a),bq this.1,e⟩
def L9:ES:=bS (bV (iC (bn cJ nu) jy)) (aj (aP 5 (U (eT (aH (vt "a") (aH (vt "o") (aH (vt "0") (aH (vt "9") (aH (vt "+") (aH (vt "-") (aH (vt "*") (aH (vt "(") (aH (vt ")") (aH (vt "[") (v8 (vt "]") (vt "=") (vt "<") (vt "!") (vt " ") (vt "or") (vt "not") (vt "true"))))))))))))))) (aP 4 (U (aY (vv 5) (bn (bv cJ nu) (vi 18)))))) c_
def IT:ES:=aj (bS (aO (ej 7) (U jy)) (bw (U (gL cU dv (bI uu)))) c_)
  (aj (bS (aO (ej 7) (U cm)) (bw (U (ag (ag (gL cU dv (bI uu)) uv) (gL cU (bI uu) dv)))) c_)
  (aj (bS (aO (ej 7) (U iD)) (bw (U (ag (ag (gL cU dv (bI uu)) uv) (gL cU (bI (ag uu cm)) dv)))) c_)
  (bw (U (ag (gL cU dv (bI uu)) (gL cU (bI (ag uu cm)) dv))))))
theorem Ih(F:a.length≤890)(x:fg a)(v:fg m)(P:m.length≤4)(k:Nat)(n:k≤a.length)(j:Int)(K:0≤j/\j < 4):∃c,fg c/\c.length≤a.length+4/\∃L,IT [qs (aG a),A,B,C,qs (aG m),E,qi (k:Int),qi j] []=some (.rt (.p (.str (aG c))),L,[]):=by
 have e:=JV (by lia) k n;have y:=rK (by lia) k n;obtain⟨d,q,f,D⟩:=AI (by lia) x k n;have lt:(a.take k).length=k:=by rw[cG];lia
 have ld:(a.drop k).length=a.length-k:=eL;have w:cM (.str (aG (a.take k))) (.str (aG m))=some (.str (aG (a.take k++m))):=cy (by lia);have z:cM (.str (aG (a.take k++m))) (.str (aG (a.drop k)))=some (.str (aG (a.take k++m++a.drop k))):=cy (by rw[aN];lia);have o:cM (.str (aG (a.take k++m))) (.str (aG d))=some (.str (aG (a.take k++m++d))):=cy (by rw[aN];lia);have H:cM (.str (aG (a.take k))) (.str (aG d))=some (.str (aG (a.take k++d))):=cy (by lia);have h:=Cv x k;have l:=ut x k;have r:fg (a.take k++m++a.drop k)/\(a.take k++m++a.drop k).length≤a.length+4:=⟨d7 (d7 h v) l,by rw[aN,aN];lia⟩;have t:fg (a.take k++m++d)/\(a.take k++m++d).length≤a.length+4:=⟨d7 (d7 h v) f,by rw[aN,aN];lia⟩;have p:fg (a.take k++d)/\(a.take k++d).length≤a.length+4:=⟨d7 h f,by rw[aN];lia⟩;have b:fg (a.take k)/\(a.take k).length≤a.length+4:=⟨h,by lia⟩;generalize a.take k++m++a.drop k=u at *
 generalize a.take k++m++d=g at *
 generalize a.take k++d=i at *
 generalize a.take k++m=S at *
 generalize a.take k=X at *
 have s:j=0\/j=1\/j=2\/j=3:=by lia
 rcases s with rfl|rfl|rfl|rfl
 .exact⟨X,b.1,b.2,_,by simp[IT,e];rfl⟩
 .exact⟨u,r.1,r.2,_,by simp[IT,e,y,-bP,w,z];rfl⟩
 .exact⟨g,t.1,t.2,_,by simp[IT,e,q,-bP,w,o];rfl⟩
 .exact⟨i,p.1,p.2,_,by simp[IT,e,q,-bP,H];rfl⟩
theorem Fh{n:Nat}(hn:2≤n){cs:List Nat}(hc:cs.length≤890)(ha:fg cs)(q c:Int):∃cs',fg cs'/\cs'.length≤cs.length+4/\jH (aF Gv Att O Rs Tb n "_law_bent") [.str (aG cs),.int q,.int c]=some (.str (aG cs')):=by
 obtain⟨n,rfl⟩:=eE (n:=n) (by first|assumption|lia);obtain⟨x,hx,ex⟩:=DR c;have hA:cM (.str A1) (.str A2)=some (.str (A1++A2)):=by kernel_rfl
 obtain⟨w,w1,w2,ew⟩:=Ge (q / 4);have hW:P.lst IW=.lst [.str "a",.str "o",.str "0",.str "9",.str "+",.str "-",.str "*",.str "(",.str ")",.str "[",.str "]",.str "=",.str "<",.str "!",.str " ",.str "or",.str "not",.str "true"]:=rfl;obtain⟨m,hm1,hm2,d5,e4⟩:∃m,fg m/\m.length≤4/\∃d5,L9 [qs (aG cs),qi q,qi c,qs (A1++A2),qs (aG [x]),none,none,none] []=some (.nx,[qs (aG cs),qi q,qi c,qs (A1++A2),qs (aG m),d5,none,none],[]):=by
  generalize A1++A2=A at *
  by_cases h:0 < q % 4
  .refine⟨w,w1,w2,ql IW,?_⟩;unfold IW at ew ⊢;simp[L9,h,ew]
  .exact⟨[x],dW hx jx,by simp,none,by simp[L9,h]⟩
 obtain⟨k,hk,ek⟩:=Bn (q / 128) (cs.length+1) (by lia);have hj0:=dY (q / 524288) (show(4:Int)≠0 by decide);have hj1:=eJ (q / 524288) (show(0:Int) < 4 by decide);obtain⟨cs',b1,b2,L',e5⟩:=Ih (a:=cs) (m:=m) hc ha hm1 hm2 k (by lia) (q / 524288 % 4) ⟨hj0,hj1⟩ (A:=qi q) (B:=qi c) (C:=qs (A1++A2)) (E:=d5);refine⟨cs',b1,b2,?_⟩;have hcap:cs.length≤1000000:=by lia
 rw[sh,cb];have hb:∀ψ ι υ,kK ψ ι υ=aj (aP 3 (U (vt A1))) (aj (aP 3 (U (ag iY (vt A2)))) (aj (aP 4 (U (aY iY (bn kR (vi 94))))) (aj L9 (aj (aP 6 (U (bn (bv cJ (vi 128)) (ag (bF Y) cm)))) (aj (aP 7 (U (bn (bv cJ (vi 524288)) nu))) IT))))):=λ_ _ _=>rfl;rw[hb];rw[show((cs.length+1:Nat):Int)=(cs.length:Int)+1 by lia]at ek;generalize A1++A2=A at *
 generalize A1=B1 at *
 generalize A2=B2 at *
 generalize aG [x]=x1 at *
 have hem:((cs.length:Int)+1=0)=False:=nr (by lia);simp[-bP,hA,ex,e4,bE,bX,hcap,ek,e5,EU,sD,hem]
theorem NH:∀t:T,2 * t.dp≤t.sz+1
 | .num _=>aw _
 | .nam _=>aw _
 | .bin _ l r=>by
  have:=NH l;have:=NH r
  have:=l.pos;have:=r.pos
  simp only[T.dp,T.sz];lia
theorem Bu(o:a.length≤890)(z:fg a):∀(b:List P),(∀x ∈ b,∃k:Nat,x=.int (k:Int)/\k < 3)->∀(m r:Option D),∃d f,et (g6 4) (j' (aF Gv Att O Rs Tb 199) (aF Gv Att O Rs Tb 198) (cO Gv Att O Rs Tb 199)) b [qp (AJ w),u,g,qs (aG a),m,r] []=some (.nx,[qp (AJ w),u,g,qs (aG a),d,f],[]):=by
 intro b;induction b with
 |nil=>intro _ m r;exact⟨m,r,rfl⟩
 |cons v b S=>
  intro h m r;obtain⟨k,rfl,A⟩:=h v aZ;obtain⟨c,i⟩:=Ct (n:=199) (by lia) w (k:=2+(k:Int)) (by lia) (by lia);obtain⟨q,_,F⟩:=i8 (n:=199) (by lia) c (p:=9) (by decide) (by decide);obtain⟨s,j,K,l⟩:=Fh (n:=199) (by lia) o z q c;have y:=tq (n:=199) (by lia) (q:=s) (by lia) j;obtain⟨d,f,e⟩:=S (λx H=>h x (a_ _ H)) (qi (k:Int)) (qs (aG s));refine⟨d,f,?_⟩;rw[n8 rfl (L2:=[qp (AJ w),u,g,qs (aG a),qi (k:Int),qs (aG s)]) (x:=[]) ?_]
  .exact e
  .generalize AJ w=sc at *
   generalize aG s=B at *
   generalize aG a=t at *
   simp[j',i,F,l,y]
theorem Ey(s:List Int)(Z:s.length≤63):jH (aF Gv Att O Rs Tb 200 "law") [AJ s]=some (.bl true):=by
 obtain⟨w,v⟩:=Ct (n:=199) (by lia) s (k:=0) (by decide) (by decide);obtain⟨u,d⟩:=Ct (n:=199) (by lia) s (k:=1) (by decide) (by decide);obtain⟨q,q0,I⟩:=i8 (n:=199) (by lia) w (p:=1) (by decide) (by decide);obtain⟨Q,_,L⟩:=i8 (n:=199) (by lia) u (p:=5) (by decide) (by decide);obtain⟨m,hm,y⟩:=Bn q 4 (by decide);rw[show((4:Nat):Int)=4 from rfl]at y;obtain⟨N,r,M,H⟩:=va (n:=199) (by lia) q (m+1) (by lia) [qp (AJ s),qi q,none,none,none,none] rfl rfl;have K:N≠[]:=λz=>by rw[z]at r;simp at r
 obtain⟨t,R,ts,f⟩:=Gs K M (n:=199) (by lia) (Ev.cut s (some 2) (some 42)) (by have:=EZ s (some 2) (some 42);lia);have X:=NH t;obtain⟨a,b,W,F⟩:=Ac t R (by lia) 199 (by lia) Q;have S:=tq (n:=199) (by lia) (q:=a) (by lia) b;have C:(1+q % 4).natAbs < 1000000:=by lia
 have e:(1+q % 4).toNat=m+1:=by lia
 have h:m+1≤1000000:=by lia
 have A:g9 (AJ s) (some 2) (some 42)=some (.lst ((Ev.cut s (some 2) (some 42)).map .int)):=by show some (P.lst (Ev.cut (s.map P.int) (some 2) (some 42)))=_;rw[EY]
 obtain⟨g,j,l⟩:=Bu (w:=s) (a:=a) (by lia) b (u:=qi q) (g:=ql (N.map λc=>P.str (aG c))) (Ev.intsFrom 0 3) (λx G=>by obtain⟨i,rfl,B⟩:=t4 G;exact⟨i,by simp,B⟩) none none
 rw[EN,cb];generalize aG a=o at *
 generalize E:t.tp=tp at *
 generalize D:AJ s=sc at *
 unfold NL at f;generalize (N.map λc=>P.str (aG c))=V at *
 generalize (Ev.cut s (some 2) (some 42)).map P.int=T at *
 simp[yw,v,d,I,L,kn,C,e,t5,h,zD,H,A,f,F,S,l]
theorem Bt{K:FG}{H:Hp}{a:Addr}{n:List Int}{E:XK}(l:n.length≤63)(h:zB H)(S:iA K H a (n.map V.int)):oF K (aF Gv Att O Rs Tb 200 "law") [.ref a] H (λv _=>v=.bl true) E:=Hl h S (Ey n l)
end My
set_option tactic.hygienic true
namespace PySem.W.Fast
def tw8940527529334853303:=Nat
def tw17909036995865871305:=Nat
def tw11897561248585508329:=Nat
def tw17971085888284904420:=Nat
def tw5543420813850428838:=Nat
def tw783761062055551715:=Nat
def tw9727410272925753542:=Nat
def tw17599743771076039335:=Nat
def tw12255749446038252072:=Nat
def tw17560620614620571806:=Nat
def tw9906746495197081201:=Nat
def tw14979869293416587017:=Nat
def tw10022418886162121484:=Nat
def tw10305750618950679887:=Nat
def tw2490308108909900978:=Nat
def tw13106665672098995311:=Nat
def tw10978002582881071853:=Nat
def tw9629554710514703217:=Nat
def tw6328925889975824100:=Nat
def tw9836375631962319529:=Nat
def tw16457470810189730361:=Nat
def tw8975205161504239806:=Nat
def tw14739410375162828361:=Nat
def tw7550473147568659610:=Nat
def tw15046654042662400124:=Nat
def tw2830781920849994344:=Nat
def tw2293232011443836527:=Nat
def tw9652976949998247311:=Nat
def tw4499355234605530361:=Nat
def tw14606816298864084554:=Nat
def tw5914318210450338208:=Nat
def tw7931704893568973308:=Nat
def tw4601277003233170331:=Nat
def tw13341963796577337785:=Nat
def tw8676376202860136245:=Nat
def tw15068097669339362239:=Nat
def tw7961986955178333521:=Nat
def tw12093484915620305647:=Nat
def tw10953400081582050915:=Nat
def tw4393733703219497809:=Nat
def tw1581894497686125757:=Nat
def tw15576159673287140131:=Nat
def tw34486446255264681:=Nat
def tw15627431376026897207:=Nat
def tw12817640069363583562:=Nat
def tw11610563958147674196:=Nat
def tw946102781359579037:=Nat
def tw9449726385965067354:=Nat
def tw17035693287658717443:=Nat
def tw9833750588228126392:=Nat
def tw580881754065753152:=Nat
def tw6977223220202416002:=Nat
def tw11886659526085671109:=Nat
def tw14362957563679698188:=Nat
def tw2686978260105432923:=Nat
def tw13235529136508586622:=Nat
def tw14610079287701124788:=Nat
def tw14021249858336294151:=Nat
def tw6823438292955673385:=Nat
def tw9797574215593693902:=Nat
def tw8686724834744971367:=Nat
def tw818422316666483625:=Nat
def tw4124029584835517228:=Nat
def tw2293536262385321787:=Nat
def tw18355852003433470117:=Nat
def tw11813823887441678143:=Nat
def tw18405329808460529923:=Nat
def tw5583357837549775101:=Nat
def tw13647121509595192983:=Nat
def tw6119554103106545641:=Nat
def tw8036911974941077568:=Nat
def tw16811937561844024846:=Nat
def tw12825509867233161065:=Nat
def tw12444260701836375048:=Nat
def tw3220601910987385546:=Nat
def tw4759242657628172535:=Nat
def tw13526966921532171599:=Nat
def tw3918582681079612731:=Nat
def tw7020412913765002522:=Nat
def tw5640234607022719456:=Nat
def tw2296895080981838724:=Nat
def tw232934917697008990:=Nat
def tw5949140564050717465:=Nat
def tw379819005345529304:=Nat
def tw8506508227499581856:=Nat
def tw18039516541856674178:=Nat
def tw2494524803771023445:=Nat
def tw2556201785135352314:=Nat
def tw323635108234352010:=Nat
def tw17688880682804990952:=Nat
def tw9562588194935601266:=Nat
def tw13991450252303975582:=Nat
def tw3179868276760713602:=Nat
def tw5804829054505537105:=Nat
def tw1845293509999733026:=Nat
def tw18007020615991805310:=Nat
def tw9605003893114271305:=Nat
def tw793241137035647947:=Nat
def tw16435137737839826290:=Nat
def tw18392488089649594729:=Nat
def tw11212699311601800416:=Nat
def tw8014460920801450195:=Nat
def tw2843870920846443716:=Nat
def tw16464224061932603548:=Nat
def tw10706806849229144618:=Nat
def tw4969045590048936425:=Nat
def tw15064191482995809958:=Nat
def tw3175614497348571655:=Nat
def tw12676159470793143115:=Nat
def tw2372288262570947615:=Nat
def tw9973778094944371322:=Nat
def tw11443446880384205736:=Nat
def tw17482484520696576322:=Nat
def tw14492777627228742721:=Nat
def tw1306869865807782860:=Nat
def tw12202135507646158108:=Nat
def tw5080939834467904067:=Nat
def tw15257370046026808795:=Nat
def tw2773551010529646729:=Nat
def tw10540220231628817709:=Nat
def tw4183983110393311413:=Nat
def tw12453514557950328077:=Nat
def tw1093035774087210828:=Nat
def tw4158833442544201745:=Nat
def tw5082116257825463455:=Nat
def tw2576863058345677304:=Nat
def tw444378614620766874:=Nat
def tw17430783840558465057:=Nat
def tw625545831093831560:=Nat
def tw11718366804215855494:=Nat
def tw14191144843314918126:=Nat
def tw4541291559034700113:=Nat
def tw8147650794751199784:=Nat
def tw2623870434067938223:=Nat
def tw8703190257982981580:=Nat
def tw8380585788522992197:=Nat
def tw11553196524314971159:=Nat
def tw997649261413961666:=Nat
def tw5189063550613535693:=Nat
def tw15200796370331732567:=Nat
def tw1652490133860527639:=Nat
def tw17088946473453669879:=Nat
def tw1958034641869162309:=Nat
def tw902462499593582940:=Nat
def tw1347614745639694667:=Nat
def tw3070357501289565661:=Nat
def tw1819312089103733406:=Nat
def tw713913958401992421:=Nat
def tw827072837806545462:=Nat
def tw14979285348303853721:=Nat
def tw9470865523628511254:=Nat
def tw9355329688960571739:=Nat
def tw4872787487211720285:=Nat
def tw14279058294545183054:=Nat
def tw11024693598464779067:=Nat
def tw11354499899018027607:=Nat
def tw3945840770105706649:=Nat
def tw1184093913263497903:=Nat
def tw17944077928173952231:=Nat
def tw4324179983280993244:=Nat
def tw4120286066815603362:=Nat
def tw6866533242711389763:=Nat
def tw4091509536956926137:=Nat
def tw1547683343451680540:=Nat
def tw13335716661025834636:=Nat
def tw14892729248716813052:=Nat
def tw6468742927871737635:=Nat
def tw4780051276828760821:=Nat
def tw18222454370745088931:=Nat
def tw18145718310718614844:=Nat
def tw13381543334353388940:=Nat
def tw6415174181812575082:=Nat
def tw2505663544896066446:=Nat
def tw9040942836847897787:=Nat
def tw11032937629956575581:=Nat
def tw13615870402485431691:=Nat
def tw5344983895953350015:=Nat
def tw10442092178611656284:=Nat
def tw13278862274276832492:=Nat
def tw1813715083852589619:=Nat
def tw10136375398482629676:=Nat
def tw6714253000433021235:=Nat
def tw7573259258959025546:=Nat
def tw9457862991307690975:=Nat
def tw16932146478528428545:=Nat
def tw10670425579414435577:=Nat
def tw17123865582674073078:=Nat
def tw5485683787836377161:=Nat
def tw8229967911954110314:=Nat
def tw6843581825137384316:=Nat
def tw12769140141317199521:=Nat
def tw163614802608274824:=Nat
def tw994672637586014457:=Nat
def tw11020417971754788610:=Nat
def tw15953669556804092916:=Nat
def tw11408555947841308082:=Nat
def tw1794273440697123716:=Nat
def tw8819408331588548167:=Nat
def tw1950109086398309792:=Nat
def tw17358613842642946959:=Nat
def tw13959030446073224029:=Nat
def tw13461542274458894485:=Nat
def tw9014403328785763530:=Nat
def tw11345558577337118585:=Nat
def tw7753775489225272448:=Nat
def tw9738534242785862637:=Nat
def tw18167741787829111889:=Nat
def tw4771627914306876040:=Nat
def tw2314218606308037079:=Nat
def tw9257187188994868308:=Nat
def tw18017689551867890841:=Nat
def tw7740186778375819451:=Nat
def tw1686137185601894429:=Nat
def tw9624029059019231675:=Nat
def tw506654534332898356:=Nat
def tw9906498469761266572:=Nat
def tw15391107929485261377:=Nat
def tw5538650876317076813:=Nat
def tw11077967837130956572:=Nat
def tw1751162084826876794:=Nat
def tw14474332415551948891:=Nat
def tw1294485411696882592:=Nat
def tw4056537264609682403:=Nat
def tw15743591624092352433:=Nat
def tw2252188639785157382:=Nat
def tw16147746187355925684:=Nat
def tw11042773239628901302:=Nat
def tw11124397696935726771:=Nat
def tw18043985012290339956:=Nat
def tw55797213680183780:=Nat
def tw1023528217750115232:=Nat
def tw1897778227375062298:=Nat
def tw7773619474346444534:=Nat
def tw16160191542992200709:=Nat
def tw13067497442490388469:=Nat
def tw17686133440619784438:=Nat
def tw212235224860839136:=Nat
def tw8975246182936113955:=Nat
def tw1409961860098338133:=Nat
def tw9093064036093805557:=Nat
def tw12990826808502004581:=Nat
def tw12033097141151908598:=Nat
def tw14757577197112514684:=Nat
def tw4588018084760724757:=Nat
def tw13735095857901842253:=Nat
def tw3862366433437136896:=Nat
def tw6518381729861660898:=Nat
def tw3108650605585648089:=Nat
def tw8857774474596175059:=Nat
def tw12004369426174475324:=Nat
def tw3080525591511560338:=Nat
def tw14297380058917790634:=Nat
def tw12258989327788744513:=Nat
def tw1851620020820427395:=Nat
def tw6750889004421111614:=Nat
def tw9172100741822253686:=Nat
def tw8132196355803032397:=Nat
def tw2458835247258030101:=Nat
def tw3486490931003198383:=Nat
def tw6332517472399945749:=Nat
def tw6829298536306028082:=Nat
def tw18288421418536898259:=Nat
def tw1432649970233081517:=Nat
def tw6081890696453742324:=Nat
def tw10174280732374570406:=Nat
def tw10657904488744414341:=Nat
def tw10924035521185601120:=Nat
def tw14905296031859084407:=Nat
def tw7476270078768038118:=Nat
def tw4668030618525596477:=Nat
def tw6505100198370499224:=Nat
def tw4585576649258980555:=Nat
def tw3351031377295722428:=Nat
def tw17009799901783259669:=Nat
def tw1037524738586053803:=Nat
def tw10582039088423322831:=Nat
def tw4225211287449534929:=Nat
def tw1664928211323853414:=Nat
def tw10728201228255308598:=Nat
def tw3037727843209883446:=Nat
def tw10058131121427373654:=Nat
def tw4038629624171817254:=Nat
def tw17417948652825244326:=Nat
def tw17685412645328259156:=Nat
def tw2590394130112105052:=Nat
def tw9275934210538038888:=Nat
def tw8267972025360257840:=Nat
def tw7218460030756474328:=Nat
def tw7888019412050796802:=Nat
def tw2329481805139671230:=Nat
def tw15272473218923374736:=Nat
def tw12958745785627048965:=Nat
def tw5612381601251012374:=Nat
def tw11986723364362965656:=Nat
def tw3975407230153217004:=Nat
def tw7128886986393078814:=Nat
def tw9882325218930143660:=Nat
def tw14923627777887785399:=Nat
end PySem.W.Fast
open PySem PySem.W PyProof.Rows
set_option maxRecDepth 100000 in
set_option maxHeartbeats 0 in
theorem PySem.Challenge.cw_roadsall_k03_no_sums_holds : PySem.Challenge.rw_roadsall_k03_no_sums.Holds := by
 w_on;o_law;k_head;(case hw=>w_witness2)
 k_fill
 refine L2.Ag (l:=PySem.Challenge.rw_roadsall_k03_no_sums) (n:=63) (k:=200) (x:="_law_script") (CX:=L2.ow) (sp:=fun K=>Ev.oF K (Ev.aF My.Gv My.Att My.O My.Rs My.Tb 200 "law")) rfl (by decide) rfl ⟨rfl,by decide,by decide⟩ (fun w h Y=>PySem.W.kIn_of Y) ?F ?S ?C
 case F=>
  intro w mg fa h KX G hmg
  have T:Ev.TOk w My.Gv My.Att My.O My.Rs My.Tb (L2.OC KX) mg:=by
   dsimp only [L2.OC]
   refine' My.Iu KX G ?ca0 ?cb0 ?cc0 ?cd0' ?ce0 ?cf0 ?cg0 ?na0_0 ?na0_1 ?na0_2 ?na0_3 ?na0_4 ?na0_5 ?a0 ?l0 ?c0 ?k0 ?a1 ?l1 ?c1 ?k1 ?a2 ?l2 ?c2 ?k2 ?a3 ?l3 ?c3 ?k3 ?a4 ?l4 ?c4 ?k4 ?a5 ?l5 ?c5 ?k5 ?a6 ?l6 ?c6 ?k6 ?a7 ?l7 ?c7 ?k7 ?a8 ?l8 ?c8 ?k8 ?a9 ?l9 ?c9 ?k9 ?a10 ?l10 ?c10 ?k10 ?a11 ?l11 ?c11 ?k11 ?a12 ?l12 ?c12 ?k12 ?a13 ?l13 ?c13 ?k13 ?a14 ?l14 ?c14 ?k14 ?a15 ?l15 ?c15 ?k15 ?a16 ?l16 ?c16 ?k16 ?a17 ?l17 ?c17 ?k17 ?a18 ?w18 ?l18 ?c18 ?k18 ?a19 ?w19 ?l19 ?c19 ?k19 ?a20 ?w20 ?l20 ?c20 ?k20 ?a21 ?w21 ?l21 ?c21 ?k21 ?a22 ?w22 ?l22 ?c22 ?k22 ?a23 ?w23 ?l23 ?c23 ?k23 ?a24 ?w24 ?l24 ?c24 ?k24 ?a25 ?w25 ?l25 ?c25 ?k25 ?a26 ?w26 ?l26 ?c26 ?k26 ?a27 ?w27 ?l27 ?c27 ?k27 ?a28 ?w28 ?l28 ?c28 ?k28 ?a29 ?w29 ?l29 ?c29 ?k29 ?a30 ?w30 ?l30 ?c30 ?k30 ?a31 ?w31 ?l31 ?c31 ?k31 ?a32 ?l32 ?c32 ?k32 ?a33 ?w33 ?l33 ?c33 ?k33 ?a34 ?w34 ?l34 ?c34 ?k34 ?a35 ?w35 ?l35 ?c35 ?k35 ?a36 ?w36 ?l36 ?c36 ?k36 ?a37 ?w37 ?l37 ?c37 ?k37 ?a38 ?w38 ?l38 ?c38 ?k38 ?a39 ?l39 ?c39 ?k39 ?a40 ?l40 ?c40 ?k40 ?a41 ?l41 ?c41 ?k41 ?a42 ?l42 ?c42 ?k42 ?glb0 ?glt0 ?glb1 ?glb2 ?glb3 ?glt3 ?gq3_0 ?gq3_1 ?gq3_2 ?gq3_3 ?gq3_4 ?glb4 ?glb5 ?glt5 ?gq5_0 ?gq5_1 ?gq5_2 ?gq5_3 ?gq5_4 ?gq5_5 ?gq5_6 ?gq5_7 ?gq5_8 ?gq5_9 ?gq5_10 ?gq5_11 ?gq5_12 ?gq5_13 ?glb6 ?glb7 ?glb8 ?glb9 ?glb10 ?glt10 ?glb11 ?glt11 ?z (My.HM KX G ?ea0 ?en0 ?ea1 ?en1 ?ea2 ?en2 ?ea3 ?en3 ?ea4 ?en4 ?ea5 ?en5 ?ea6 ?en6 ?ea7 ?en7 ?ea8 ?en8 ?ea9 ?en9 ?ev ?env ?xg1 ?xh1 ?cQ ?xc1 ?xb1 ?eD ?xo1 ?cm ?xs1 ?cJ ?xr1 ?xk1_0 ?xm1_0 ?xk1_1 ?xm1_1 ?xk1_2 ?xk1_3 ?xk1_4 ?xk1_5 ?xk1_6 ?xk1_7 ?xk1_8 ?xk1_9)
   (case ea0=>first | k_is | rfl | kernel_rfl)
   (case en0=>first | k_is | rfl | kernel_rfl)
   (case ea1=>first | k_is | rfl | kernel_rfl)
   (case en1=>first | k_is | rfl | kernel_rfl)
   (case ea2=>first | k_is | rfl | kernel_rfl)
   (case en2=>first | k_is | rfl | kernel_rfl)
   (case ea3=>first | k_is | rfl | kernel_rfl)
   (case en3=>first | k_is | rfl | kernel_rfl)
   (case ea4=>first | k_is | rfl | kernel_rfl)
   (case en4=>first | k_is | rfl | kernel_rfl)
   (case ea5=>first | k_is | rfl | kernel_rfl)
   (case en5=>first | k_is | rfl | kernel_rfl)
   (case ea6=>first | k_is | rfl | kernel_rfl)
   (case en6=>first | k_is | rfl | kernel_rfl)
   (case ea7=>first | k_is | rfl | kernel_rfl)
   (case en7=>first | k_is | rfl | kernel_rfl)
   (case ea8=>first | k_is | rfl | kernel_rfl)
   (case en8=>first | k_is | rfl | kernel_rfl)
   (case ea9=>first | k_is | rfl | kernel_rfl)
   (case en9=>first | k_is | rfl | kernel_rfl)
   (case ev=>first | k_is | rfl | kernel_rfl)
   (case env=>first | k_is | rfl | kernel_rfl)
   (case xg1=>first | k_is | rfl | kernel_rfl)
   (case xh1=>first | k_is | rfl | kernel_rfl)
   (case cQ=>first | k_is | rfl | kernel_rfl)
   (case xc1=>first | k_is | rfl | kernel_rfl)
   (case xb1=>first | k_is | rfl | kernel_rfl)
   (case eD=>first | k_is | rfl | kernel_rfl)
   (case xo1=>first | k_is | rfl | kernel_rfl)
   (case cm=>first | k_is | rfl | kernel_rfl)
   (case xs1=>first | k_is | rfl | kernel_rfl)
   (case cJ=>first | k_is | rfl | kernel_rfl)
   (case xr1=>exact My.EI ⟨⟨_,by k_is,by first|rfl|kernel_rfl,by first|rfl|kernel_rfl⟩,by k_is,by k_is⟩ ⟨_,_,_,_,_,_,_,_,_,_,_,_,by k_is,⟨_,_,_,_,_,_,_,_,_,_,_,_,_,_,by rfl⟩,by first|k_is|kernel_rfl,by first|k_is|kernel_rfl,by k_is,by k_is,by k_is,by k_is⟩)
   (case xk1_0=>first | k_is | rfl | kernel_rfl)
   (case xm1_0=>first | k_is | rfl | kernel_rfl)
   (case xk1_1=>first | k_is | rfl | kernel_rfl)
   (case xm1_1=>first | k_is | rfl | kernel_rfl)
   (case xk1_2=>first | k_is | rfl | kernel_rfl)
   (case xk1_3=>first | k_is | rfl | kernel_rfl)
   (case xk1_4=>first | k_is | rfl | kernel_rfl)
   (case xk1_5=>first | k_is | rfl | kernel_rfl)
   (case xk1_6=>first | k_is | rfl | kernel_rfl)
   (case xk1_7=>first | k_is | rfl | kernel_rfl)
   (case xk1_8=>first | k_is | rfl | kernel_rfl)
   (case xk1_9=>first | k_is | rfl | kernel_rfl)
   (case ca0=>k_is)
   (case cb0=>k_is)
   (case cc0=>k_is)
   (case cd0'=>k_is)
   (case ce0=>k_is)
   (case cf0=>k_is)
   (case cg0=>k_is)
   (case na0_0=>k_is)
   (case na0_1=>k_is)
   (case na0_2=>k_is)
   (case na0_3=>k_is)
   (case na0_4=>k_is)
   (case na0_5=>k_is)
   (case a0=>k_is)
   (case l0=>k_is)
   (case c0=>k_is)
   (case k0=>k_is)
   (case a1=>k_is)
   (case l1=>k_is)
   (case c1=>k_is)
   (case k1=>k_is)
   (case a2=>k_is)
   (case l2=>k_is)
   (case c2=>k_is)
   (case k2=>k_is)
   (case a3=>k_is)
   (case l3=>k_is)
   (case c3=>k_is)
   (case k3=>k_is)
   (case a4=>k_is)
   (case l4=>k_is)
   (case c4=>k_is)
   (case k4=>k_is)
   (case a5=>k_is)
   (case l5=>k_is)
   (case c5=>k_is)
   (case k5=>k_is)
   (case a6=>k_is)
   (case l6=>k_is)
   (case c6=>k_is)
   (case k6=>k_is)
   (case a7=>k_is)
   (case l7=>k_is)
   (case c7=>k_is)
   (case k7=>k_is)
   (case a8=>k_is)
   (case l8=>k_is)
   (case c8=>k_is)
   (case k8=>k_is)
   (case a9=>k_is)
   (case l9=>k_is)
   (case c9=>k_is)
   (case k9=>k_is)
   (case a10=>k_is)
   (case l10=>k_is)
   (case c10=>k_is)
   (case k10=>k_is)
   (case a11=>k_is)
   (case l11=>k_is)
   (case c11=>k_is)
   (case k11=>k_is)
   (case a12=>k_is)
   (case l12=>k_is)
   (case c12=>k_is)
   (case k12=>k_is)
   (case a13=>k_is)
   (case l13=>k_is)
   (case c13=>k_is)
   (case k13=>k_is)
   (case a14=>k_is)
   (case l14=>k_is)
   (case c14=>k_is)
   (case k14=>k_is)
   (case a15=>k_is)
   (case l15=>k_is)
   (case c15=>k_is)
   (case k15=>k_is)
   (case a16=>k_is)
   (case l16=>k_is)
   (case c16=>k_is)
   (case k16=>k_is)
   (case a17=>k_is)
   (case l17=>k_is)
   (case c17=>k_is)
   (case k17=>k_is)
   (case a18=>k_is)
   (case w18=>k_is)
   (case l18=>k_is)
   (case c18=>k_is)
   (case k18=>k_is)
   (case a19=>k_is)
   (case w19=>k_is)
   (case l19=>k_is)
   (case c19=>k_is)
   (case k19=>k_is)
   (case a20=>k_is)
   (case w20=>k_is)
   (case l20=>k_is)
   (case c20=>k_is)
   (case k20=>k_is)
   (case a21=>k_is)
   (case w21=>k_is)
   (case l21=>k_is)
   (case c21=>k_is)
   (case k21=>k_is)
   (case a22=>k_is)
   (case w22=>k_is)
   (case l22=>k_is)
   (case c22=>k_is)
   (case k22=>k_is)
   (case a23=>k_is)
   (case w23=>k_is)
   (case l23=>k_is)
   (case c23=>k_is)
   (case k23=>k_is)
   (case a24=>k_is)
   (case w24=>k_is)
   (case l24=>k_is)
   (case c24=>k_is)
   (case k24=>k_is)
   (case a25=>k_is)
   (case w25=>k_is)
   (case l25=>k_is)
   (case c25=>k_is)
   (case k25=>k_is)
   (case a26=>k_is)
   (case w26=>k_is)
   (case l26=>k_is)
   (case c26=>k_is)
   (case k26=>k_is)
   (case a27=>k_is)
   (case w27=>k_is)
   (case l27=>k_is)
   (case c27=>k_is)
   (case k27=>k_is)
   (case a28=>k_is)
   (case w28=>k_is)
   (case l28=>k_is)
   (case c28=>k_is)
   (case k28=>k_is)
   (case a29=>k_is)
   (case w29=>k_is)
   (case l29=>k_is)
   (case c29=>k_is)
   (case k29=>k_is)
   (case a30=>k_is)
   (case w30=>k_is)
   (case l30=>k_is)
   (case c30=>k_is)
   (case k30=>k_is)
   (case a31=>k_is)
   (case w31=>k_is)
   (case l31=>k_is)
   (case c31=>k_is)
   (case k31=>k_is)
   (case a32=>k_is)
   (case l32=>k_is)
   (case c32=>k_is)
   (case k32=>k_is)
   (case a33=>k_is)
   (case w33=>k_is)
   (case l33=>k_is)
   (case c33=>k_is)
   (case k33=>k_is)
   (case a34=>k_is)
   (case w34=>k_is)
   (case l34=>k_is)
   (case c34=>k_is)
   (case k34=>k_is)
   (case a35=>k_is)
   (case w35=>k_is)
   (case l35=>k_is)
   (case c35=>k_is)
   (case k35=>k_is)
   (case a36=>k_is)
   (case w36=>k_is)
   (case l36=>k_is)
   (case c36=>k_is)
   (case k36=>k_is)
   (case a37=>k_is)
   (case w37=>k_is)
   (case l37=>k_is)
   (case c37=>k_is)
   (case k37=>k_is)
   (case a38=>k_is)
   (case w38=>k_is)
   (case l38=>k_is)
   (case c38=>k_is)
   (case k38=>k_is)
   (case a39=>k_is)
   (case l39=>k_is)
   (case c39=>k_is)
   (case k39=>k_is)
   (case a40=>k_is)
   (case l40=>k_is)
   (case c40=>k_is)
   (case k40=>k_is)
   (case a41=>k_is)
   (case l41=>k_is)
   (case c41=>k_is)
   (case k41=>k_is)
   (case a42=>k_is)
   (case l42=>k_is)
   (case c42=>k_is)
   (case k42=>k_is)
   (case glb0=>k_is)
   (case glt0=>k_is)
   (case glb1=>k_is)
   (case glb2=>k_is)
   (case glb3=>k_is)
   (case glt3=>k_is)
   (case gq3_0=>first | rfl | k_is)
   (case gq3_1=>first | rfl | k_is)
   (case gq3_2=>first | rfl | k_is)
   (case gq3_3=>first | rfl | k_is)
   (case gq3_4=>first | rfl | k_is)
   (case glb4=>k_is)
   (case glb5=>k_is)
   (case glt5=>k_is)
   (case gq5_0=>first | rfl | k_is)
   (case gq5_1=>first | rfl | k_is)
   (case gq5_2=>first | rfl | k_is)
   (case gq5_3=>first | rfl | k_is)
   (case gq5_4=>first | rfl | k_is)
   (case gq5_5=>first | rfl | k_is)
   (case gq5_6=>first | rfl | k_is)
   (case gq5_7=>first | rfl | k_is)
   (case gq5_8=>first | rfl | k_is)
   (case gq5_9=>first | rfl | k_is)
   (case gq5_10=>first | rfl | k_is)
   (case gq5_11=>first | rfl | k_is)
   (case gq5_12=>first | rfl | k_is)
   (case gq5_13=>first | rfl | k_is)
   (case glb6=>k_is)
   (case glb7=>k_is)
   (case glb8=>k_is)
   (case glb9=>k_is)
   (case glb10=>k_is)
   (case glt10=>k_is)
   (case glb11=>k_is)
   (case glt11=>k_is)
   case z=>
    intro x hx
    simp only [Ev.Fg,List.mem_cons,List.not_mem_nil,or_false] at hx
    rcases hx with rfl | rfl | rfl | rfl | rfl | rfl | rfl | rfl | rfl | rfl | rfl | rfl | rfl | rfl | rfl | rfl | rfl | rfl | rfl <;> k_is
  obtain⟨f,fd,h1⟩:=T.fn My.sC (by simp [My.Tb])
  have e0:=hmg.symm.trans (h1.gl (by decide +kernel))
  cases e0
  refine⟨fd,?_,fun base kb nb=>((Ev.yj T 200).1 My.sC (by simp [My.Tb]) _ fd h1.fn).1⟩
  obtain⟨oc,od,kV,doc,pm,an,cdv,ct,osl,rfl,lk,hcd⟩:=h1.fn.ex
  exact fun s v=>.of_eq rfl
 case S=>exact fun w H a ns hl hO hS=>My.Bt hl hO hS
 case C=>exact fun _ _ _ _ z=>z
