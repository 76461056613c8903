import PyProof.Rows.All
import Wide.All
import OpenK.AllK
import Wide.FinOn
import Lean
import PyProof.EqAt
import PyProof.EqKinds
import PyProof.TupleCall
import PySem.Challenge.RW_roadsall_k32_rounds_that_keep_wishes
set_option Elab.async false
set_option linter.all false
set_option maxRecDepth 100000
set_option maxHeartbeats 4000000
noncomputable section
abbrev VP:=PySem.Value->PySem.Shared->Prop
abbrev PN:=List (PySem.Addr×PySem.Obj)
abbrev SV:=PySem.Str->Option PySem.Value
abbrev Aa:=PySem.Addr->Prop
abbrev LS:=List PySem.Str
abbrev LV:=List PySem.Value
abbrev Ab:=List PySem.Expr
abbrev OV:=Option PySem.Value
abbrev FG:=PySem.W.Frag
abbrev av:=@List.mem_cons
abbrev aZ:=@List.mem_cons_of_mem
abbrev bx:=@List.getElem?_set_ne
abbrev cG:=@List.getElem?_eq_getElem
abbrev bY:=@List.mem_of_getElem?
abbrev bq:=@List.all_eq_true
abbrev bt:=@List.length_cons
abbrev aQ:=@Nat.le_trans
abbrev dN:=@List.getElem?_set_self
abbrev cV:=@List.length_append
abbrev bO:=@Bool.false_ne_true
abbrev bv:=@decide_eq_false
abbrev bu:=@List.length_map
abbrev cg:=@Nat.lt_of_lt_of_le
abbrev di:=@List.replicate_succ
abbrev fQ:=@List.getElem?_append_right
abbrev bX:=@Nat.ne_of_lt
abbrev dh:=@List.mem_append
abbrev cu:=@List.mem_map
abbrev dP:=@List.getElem_mem
abbrev fP:=@List.mem_append_right
abbrev cD:=@Nat.ne_of_gt
abbrev ey:=@List.not_mem_nil
abbrev ij:=@List.getD_eq_getElem?_getD
abbrev i3:=@List.eq_nil_of_length_eq_zero
abbrev ei:=@PySem.W.kia_one
abbrev ii:=@List.getElem?_take_of_lt
abbrev dw:=@List.all_cons
abbrev fO:=@Int.emod_lt_of_pos
abbrev eM:=@List.length_set
abbrev eL:=@Int.emod_nonneg
abbrev ig:=@Option.map_eq_some_iff
abbrev ie:=@List.set_getElem_self
abbrev gY:=@List.flatten_cons
abbrev e_:=@List.any_cons
abbrev aG:=@PySem.W.mg_of
abbrev gw:=@List.foldl_cons
abbrev eK:=@Int.zero_add
abbrev lb:=@PyProof.Rows.callWith_type1
abbrev gX:=@List.nil_append
abbrev j0:=@List.length_filter_le
abbrev ib:=@List.length_take
abbrev jZ:=@beq_eq_false_iff_ne
abbrev jY:=@List.filterMap_cons
abbrev i0:=@PySem.wpAny_truthy_bool
abbrev h_:=@decide_eq_true
abbrev la:=@PySem.F.slot_dict_get
abbrev iZ:=@List.mem_filter
abbrev iY:=@List.find?_cons
abbrev iX:=@Bool.or_eq_true
abbrev k_:=@List.mem_append_left
abbrev kZ:=@Array.length_toList
abbrev ee:=@or_false
abbrev jX:=@PySem.Calls.spliced_nil
abbrev kY:=@Nat.lt_of_le_of_lt
abbrev h7:=@Nat.le_of_lt
abbrev iW:=@Nat.lt_irrefl
abbrev kX:=@PySem.wpAny_Call_Name_kw
abbrev kW:=@PySem.tupleKind_room_in1
abbrev jW:=@PySem.wpAny_loadPart'
abbrev kU:=@Option.bind_some
abbrev pZ:=@List.mem_of_find?_eq_some
abbrev pY:=@List.getElem?_eq_none_iff
abbrev mW:=@PySem.mem_of_lookup
abbrev mV:=@List.mem_filterMap
abbrev iV:=@Sum.inr.inj
abbrev mU:=@PySem.W.kitx_list
abbrev pX:=@PySem.F.slot_tuple_mul
abbrev pW:=@PySem.F.entry_dict_get
abbrev jV:=@Nat.zero_add
abbrev mS:=@List.flatMap_cons
abbrev jU:=@PyProof.Rows.slot_tuple_getitem
abbrev pV:=@PySem.wpAny_getItem_str_slice
abbrev pU:=@List.mem_of_mem_take
abbrev pT:=@List.mem_iff_getElem
abbrev kT:=@Nat.lt_trans
abbrev pS:=@List.mem_replicate
abbrev mR:=@PySem.wpAny_passesOwn
abbrev uj:=@Array.getElem?_eq_getElem
abbrev pR:=@PySem.Heap.SameBut.update
abbrev ui:=@PySem.F.args_tuple_add_2
abbrev uh:=@PySem.F.plainAttrs_list
abbrev ug:=@PySem.F.plainAttrs_dict
abbrev uf:=@PySem.F.entry_tuple_add
abbrev pQ:=@Nat.lt_succ_self
abbrev pP:=@List.take_length
abbrev pO:=@List.mem_flatMap
abbrev pN:=@List.lookup_cons
abbrev ue:=@List.getElem?_replicate
abbrev ud:=@List.filter_cons_of_pos
abbrev uc:=@List.filter_cons_of_neg
abbrev pM:=@List.any_eq_true
abbrev ub:=@PySem.F.slot_tuple_add
abbrev kS:=@PySem.sizeLine_eq
abbrev pL:=@List.find?_some
abbrev pK:=@List.cons.injEq
abbrev pJ:=@Bool.eq_iff_iff
abbrev pI:=@List.mem_range
abbrev ua:=@List.mem_of_mem_drop
abbrev pH:=@List.drop_zero
abbrev qf:=@PySem.F.slot_zip_getattribute
abbrev kh:=@PySem.wpAny_typeOf
abbrev kg:=@PySem.call_meetsIn
abbrev qe:=@PySem.W.plainGet_of
abbrev mG:=@PySem.post_val_or_str
abbrev mF:=@Bool.false_or
abbrev kf:=@beq_iff_eq
abbrev qd:=@PySem.W.callWith_K
abbrev qc:=@PySem.Heap.get?_update_self
abbrev vj:=@List.findIdx?_eq_some_iff_getElem
abbrev ik:=@if_true
abbrev qa:=@Option.isSome_map
abbrev mE:=@Nat.mul_comm
abbrev p':=@Nat.le_of_succ_le
abbrev mD:=@List.map_map
abbrev p_:=@List.range'_succ
abbrev p9:=@List.length_drop
abbrev p7:=@List.drop_length
abbrev p6:=@List.cons_append
abbrev p0:=@Bool.not_eq_true
abbrev mB:=@Nat.le_succ
namespace L2
open PySem PySem.Spec PyProof.Rows
noncomputable abbrev bC:=Sum Int Str
noncomputable def pb:bC->Value->Bool
 | .inl k,v=>Value.isInt k v
 | .inr x,v=>Value.isStrOf x v
noncomputable def JJ (w:World):bC->Int
 | .inl k=>hashInt k
 | .inr x=>hashStr w x
theorem cz:∀{k:bC}{v:Value},pb k v=true->(∃i t,k=Sum.inl i/\v=Value.int i t)\/(∃x t,k=Sum.inr x/\v=Value.str x t)
 | .inl i,v,h=>by obtain⟨t,e⟩:=Value.isInt_shape (k:=i) (v:=v) h;exact .inl ⟨i,t,rfl,e⟩
 | .inr x,v,h=>by obtain⟨t,e⟩:=Value.isStrOf_shape (x:=x) (v:=v) h;exact .inr ⟨x,t,rfl,e⟩
theorem xb (i:Int) (t:Tok):pb (.inl i) (.int i t)=true:=by simp [pb,Value.isInt]
theorem xa (x:Str) (t:Tok):pb (.inr x) (.str x t)=true:=by simp [pb,Value.isStrOf]
theorem DX (a b:Int):decide ((Sum.inl a:bC)=Sum.inl b)=(a == b):=by
 by_cases e:a=b
 .subst e;simp
 .have h:¬(Sum.inl a:bC)=Sum.inl b:=fun q=>e (Sum.inl.inj q);rw [bv h];exact (jZ.mpr e).symm
theorem DU (a b:Str):decide ((Sum.inr a:bC)=Sum.inr b)=decide (a=b):=by
 by_cases e:a=b
 .subst e;simp
 .have h:¬(Sum.inr a:bC)=Sum.inr b:=fun q=>e (iV q);rw [bv h,bv e]
theorem DW (a:Int) (b:Str):decide ((Sum.inl a:bC)=Sum.inr b)=false:=bv (fun q=>nomatch q)
theorem DV (a:Str) (b:Int):decide ((Sum.inr a:bC)=Sum.inl b)=false:=bv (fun q=>nomatch q)
noncomputable def bJ (prog:Program) (w:World):PySem.KeyKind prog w bC where
 is:=pb
 hash:=JJ w
 inj:=fun v a b c f=>by
  rcases cz c with ⟨i,t,rfl,rfl⟩ | ⟨x,t,rfl,rfl⟩
  .rcases cz f with ⟨j,u,rfl,e⟩ | ⟨y,u,rfl,e⟩
   .injection e with s _;rw [s]
   .exact nomatch e
  .rcases cz f with ⟨j,u,rfl,e⟩ | ⟨y,u,rfl,e⟩
   .exact nomatch e
   .injection e with s _;rw [s]
 byValue:=fun k v h=>by rcases cz h with ⟨i,t,rfl,rfl⟩ | ⟨x,t,rfl,rfl⟩ <;> rfl
 pyHash:=fun n h=>by
  rcases cz n with ⟨i,t,rfl,rfl⟩ | ⟨x,t,rfl,rfl⟩
  .exact wpAny_pyHash_int h
  .exact wpAny_pyHash_str h
 eqBool:=fun m n h=>by
  rcases cz m with ⟨i,t,rfl,rfl⟩ | ⟨x,t,rfl,rfl⟩
  .rcases cz n with ⟨j,u,rfl,rfl⟩ | ⟨y,u,rfl,rfl⟩
   .rw [DX] at h;exact wpAny_eqBool_int h
   .rw [DW] at h;exact SeqAt.EqAt.int_str i t y u _ _ _ _ h
  .rcases cz n with ⟨j,u,rfl,rfl⟩ | ⟨y,u,rfl,rfl⟩
   .rw [DV] at h;exact SeqAt.EqAt.str_int x t j u _ _ _ _ h
   .rw [DU] at h;exact wpAny_eqBool_str h
 «strs»:=fun k x t v h=>by
  rcases cz h with ⟨i,u,rfl,e⟩ | ⟨y,u,rfl,e⟩
  .exact nomatch e
  .injection e with s _;subst s;cases v <;> rfl
theorem sI (prog:Program) (w:World) (i:Int) (t:Tok):(bJ prog w).is (.inl i) (.int i t)=true:=xb i t
theorem sH (prog:Program) (w:World) (x:Str) (t:Tok):(bJ prog w).is (.inr x) (.str x t)=true:=xa x t
inductive V where
 | non | bl (b:Bool) | int (i:Int) | str (x:Str) | byt (b:Array UInt8) | flt (b:UInt64) | ref (a:Addr) | ty (n:String)
 deriving DecidableEq
noncomputable def RelV:V->Value->Prop
 | .non,u=>u=Value.none
 | .bl b,u=>u=Value.bool b
 | .int i,u=>∃t,u=Value.int i t
 | .str x,u=>∃t,u=Value.str x t
 | .byt b,u=>∃t,u=Value.bytes b t
 | .flt b,u=>∃t,u=Value.float b t
 | .ref a,u=>u=Value.ref a
 | .ty n,u=>u=Value.type n
noncomputable abbrev aI:List V->LV->Prop:=Paired RelV
variable {Y:LV}
theorem aI.length (r:aI xs Y):xs.length=Y.length:=Paired.length r
theorem aI.get:∀{xs:List V}{Y:LV}{i:Nat}{x:V},aI xs Y->xs[i]? = some x->∃u,Y[i]? = some u/\RelV x u
 | _,_,_,_,.nil,e=>by simp at e
 | _,_,0,_,.cons r _,e=>by simp at e;subst e;exact⟨_,rfl,r⟩
 | _,_,i+1,x,.cons _ t,e=>by obtain⟨u,J,h2⟩:=aI.get (i:=i) (x:=x) t (by simpa using e);exact⟨u,by simpa using J,h2⟩
variable {u:Value}
theorem aI.set (r:RelV x u):∀{xs:List V}{Y:LV} (i:Nat),aI xs Y->aI (xs.set i x) (Y.set i u)
 | _,_,_,.nil=>.nil
 | _,_,0,.cons _ t=>.cons r t
 | _,_,i+1,.cons q t=>.cons q (aI.set r i t)
theorem aI.append:∀{xs ys:List V}{Y w:LV},aI xs Y->aI ys w->aI (xs++ys) (Y++w)
 | _,_,_,_,.nil,s=>s
 | _,_,_,_,.cons r t,s=>.cons r (aI.append t s)
theorem aI.take:∀{xs:List V}{Y:LV} (n:Nat),aI xs Y->aI (xs.take n) (Y.take n)
 | _,_,0,_=>.nil
 | _,_,_+1,.nil=>.nil
 | _,_,n+1,.cons r t=>.cons r (aI.take n t)
theorem aI.drop:∀{xs:List V}{Y:LV} (n:Nat),aI xs Y->aI (xs.drop n) (Y.drop n)
 | _,_,0,r=>r
 | _,_,_+1,.nil=>.nil
 | _,_,n+1,.cons _ t=>aI.drop n t
theorem aI.none_of:∀{xs:List V}{Y:LV}{i:Nat},aI xs Y->xs[i]? = none->Y[i]? = none:=fun {xs Y i} r e=>by have J:=r.length;have h2:xs.length≤i:=pY.mp e;exact pY.mpr (by lia)
noncomputable def iU:Option V->OV->Prop
 | some v,some u=>RelV v u
 | none,none=>True
 | _,_=>False
noncomputable def KV:List (κ×V)->List (κ×Value)->Prop:=Paired fun (p:κ×V) (q:κ×Value)=>p.1=q.1/\RelV p.2 q.2
noncomputable def kV:bC->V
 | .inl i=>.int i
 | .inr x=>.str x
noncomputable def lK (h:Heap) (a:Addr) (i:Array Value):Prop:=∃o,h.get? a=some o/\(o.cls=.type "tuple"/\∃n,o.data=.seq i n)/\o.dict=none
variable {h:Heap}{a:Addr}
theorem lK.tup (x:lK h a N):IsTup h a N:=by obtain⟨o,e,c,_⟩:=x;exact⟨o,e,c⟩
theorem lK.lt (x:lK h a N):a < h.objs.size:=x.tup.lt
theorem lK.new (h:Heap) (i:Array Value):lK (h.push { cls:=.type "tuple",data:=.seq i }) h.objs.size i:=⟨_,Heap.get?_push_size _ rfl,⟨rfl,_,rfl⟩,rfl⟩
inductive HO where
 | lst (xs:List V)
 | tup (xs:List V)
 | dK (kvs:List (bC×V)) | dT (kvs:List (List bC×V))
 | set (S:Int->Bool) (n:Nat)
 | ins (C dx:Addr) (fs:List (Str×V))
 | own (x:Addr)
 | xd (fs:List (Str×V))
 | met (f x:Addr)
 | rng (lo hi:Int)
 | frz (o:Obj) (u:HO)
 | tbl (ps:Array Value)
 | ext (φ:Heap->Prop)
noncomputable abbrev Hp:=Addr->Option HO
noncomputable def cf (H:Hp) (a:Addr) (o:HO):Hp:=fun b=>if b=a then some o else H b
variable {H:Hp}
theorem aK:cf H a o a=some o:=by unfold cf;rw [if_pos rfl]
variable {b:Addr}
theorem az (h:b≠a):cf H a o b=H b:=by unfold cf;rw [if_neg h]
theorem Gh {H:Hp}{a b:Addr}{o u:HO} (h:H a=some o) (h':H b=some u) (d:o≠u):a≠b:=by intro e;subst e;rw [h] at h';exact d (Option.some.inj h')
theorem cE (h:H a=some o) (h':H b=none):a≠b:=by intro e;subst e;rw [h] at h';cases h'
section
variable (P:Program) (w:World)
noncomputable def cb (H:Hp) (h:Heap) (a:Addr):HO->Prop
 | .lst xs=>xs.length≤sizeLine/\∃(i:LV) (n:Nat),aI xs i/\h.get? a=some { cls:=.type "list",data:=.seq i.toArray n }
 | .tup xs=>xs.length≤sizeLine/\∃i:LV,aI xs i/\lK h a i.toArray
 | .dK j=>j.length≤sizeLine/\(a == sysModules)=false/\∃k,KV j k/\h.DictOf (bJ P w) a k
 | .dT j=>j.length≤sizeLine/\(a == sysModules)=false/\∃xs:List (List bC×Addr×Value),
   Paired (fun (p:List bC×V) (e:List bC×Addr×Value)=>p.1=e.1/\H e.2.1=some (.tup (p.1.map kV))/\RelV p.2 e.2.2) j xs /\
   ∃o es b,h.get? a=some o/\o.ExactDict/\o.data=.dict es b/\es.toList=xs.map (entryOfKey (tupleKind (bJ P w)))/\(xs.map (·.1)).Nodup
 | .set S n=>h.SetOf (intKind P w) a S n
 | .ins C dx fs=>H dx=some (.own a)/\fs.length≤1000/\dx≠a/\h.get? a=some (PySem.W.instObj C dx) /\
   ∃mA,h.Ns1 dx mA/\(∀f,iU (fs.lookup f) (mA f))/\PySem.Within mA (fs.map (·.1))
 | .own _=>∃o,h.get? a=some o
 | .xd fs=>∃mA,h.Ns1 a mA/\∀f,iU (fs.lookup f) (mA f)
 | .rng I q=>∃t u v,h.get? a=some { cls:=.type "range",data:=.fields #[.int I t,.int q u,.int 1 v] }
 | .frz o u=>h.get? a=some o/\cb H h a u
 | .tbl ps=>h.get? a=some { cls:=.none,data:=.fields ps }
 | .met f x=>h.get? a=some (PySem.W.methodObj (.ref f) (.ref x))
 | .ext s=>s h/\(∃o,h.get? a=some o)/\∀J h2:Heap,s J->(∀o,J.get? a=some o->h2.get? a=some o)->s h2
noncomputable def jH (H:Hp) (h:Heap):Prop:=∀a o,H a=some o->cb P w H h a o
end
section
variable {P:Program}{w:World}{H H':Hp}{h h':Heap}{a:Addr}{o:HO}
theorem cb.lt (x:cb P w H h a o):a < h.objs.size:=by
 cases o with
 | lst xs=>obtain⟨_,_,_,_,e⟩:=x;exact Heap.lt_size e
 | tup xs=>obtain⟨_,_,_,p⟩:=x;exact p.lt
 | dK j=>obtain⟨_,_,_,_,o,_,_,e,_⟩:=x;exact Heap.lt_size e
 | dT j=>obtain⟨_,_,_,_,o,_,_,e,_⟩:=x;exact Heap.lt_size e
 | set S n=>obtain⟨o,_,_,_,e,_⟩:=x;exact Heap.lt_size e
 | ins C dx fs=>obtain⟨_,_,_,e,_⟩:=x;exact Heap.lt_size e
 | own y=>obtain⟨_,e⟩:=x;exact Heap.lt_size e
 | xd fs=>obtain⟨_,⟨_,_,_,e,_⟩,_⟩:=x;exact Heap.lt_size e
 | rng I q=>obtain⟨_,_,_,e⟩:=x;exact Heap.lt_size e
 | frz b u=>obtain⟨e,_⟩:=x;exact Heap.lt_size e
 | tbl ps=>exact Heap.lt_size (show h.get? a=some _ from x)
 | met f y=>exact Heap.lt_size (show h.get? a=some _ from x)
 | ext s=>obtain⟨_,⟨_,e⟩,_⟩:=x;exact Heap.lt_size e
theorem Paired.mapP:∀{l:List α}{h:List β},Paired F l h->(∀a b,F a b->N a b)->Paired N l h
 | _,_,.nil,_=>.nil
 | _,_,.cons r t,f=>.cons (f _ _ r) (Paired.mapP t f)
theorem cb.stay (x:cb P w H h a o) (k:∀b u,(b=a\/H b=some (.own a))->h.get? b=some u->h'.get? b=some u)
  (K:∀b,H b=some (.own a)->H' b=some (.own a)) (A:∀b xs,H b=some (.tup xs)->H' b=some (.tup xs)):cb P w H' h' a o:=by
 induction o with
 | lst xs=>obtain⟨z,i,n,r,e⟩:=x;exact⟨z,i,n,r,k _ _ (.inl rfl) e⟩
 | tup xs=>obtain⟨z,i,r,m,e,c⟩:=x;exact⟨z,i,r,m,k _ _ (.inl rfl) e,c⟩
 | dK j=>obtain⟨z,y,E,r,m,es,g,e,c⟩:=x;exact⟨z,y,E,r,m,es,g,k _ _ (.inl rfl) e,c⟩
 | dT j=>obtain⟨z,y,xs,r,m,es,g,e,c⟩:=x;exact⟨z,y,xs,Paired.mapP r fun p s z=>⟨z.1,A _ _ z.2.1,z.2.2⟩,m,es,g,k _ _ (.inl rfl) e,c⟩
 | set S n=>obtain⟨m,es,g,t,e,c⟩:=x;exact⟨m,es,g,t,k _ _ (.inl rfl) e,c⟩
 | ins C dx fs=>obtain⟨d,z,D,e,mA,⟨l,es,g,F,c⟩,r⟩:=x;exact⟨K _ d,z,D,k _ _ (.inl rfl) e,mA,⟨l,es,g,k _ _ (.inr d) F,c⟩,r⟩
 | own y=>obtain⟨m,e⟩:=x;exact⟨m,k _ _ (.inl rfl) e⟩
 | xd fs=>obtain⟨mA,⟨l,es,g,e,c⟩,r⟩:=x;exact⟨mA,⟨l,es,g,k _ _ (.inl rfl) e,c⟩,r⟩
 | rng I q=>obtain⟨t,u,v,e⟩:=x;exact⟨t,u,v,k _ _ (.inl rfl) e⟩
 | frz m u B=>obtain⟨e,s⟩:=x;exact⟨k _ _ (.inl rfl) e,B s⟩
 | tbl ps=>have e:h.get? a=some { cls:=.none,data:=.fields ps }:=x;show h'.get? a=some { cls:=.none,data:=.fields ps };exact k a _ (.inl rfl) e
 | met f y=>have e:h.get? a=some (PySem.W.methodObj (.ref f) (.ref y)):=x;show h'.get? a=some (PySem.W.methodObj (.ref f) (.ref y));exact k a _ (.inl rfl) e
 | ext G=>obtain⟨p,⟨o,e⟩,st⟩:=x;exact⟨st _ _ p fun o s=>k _ _ (.inl rfl) s,⟨o,k _ _ (.inl rfl) e⟩,st⟩
theorem jH.lt (x:jH P w H h) (e:H a=some o):a < h.objs.size:=(x a o e).lt
theorem jH.fresh (x:jH P w H h) (e:h.objs.size≤a):H a=none:=by
 cases q:H a with
 | none=>rfl
 | some u=>exact absurd (cg (x.lt q) e) (iW _)
theorem jH.kept (x:jH P w H h) (k:∀b u,h.get? b=some u->h'.get? b=some u):jH P w H h':=fun a o e=>
 (x a o e).stay (fun b u _ q=>k b u q) (fun _ q=>q) fun _ _ q=>q
theorem jH.laid (x:jH P w H h) (k:∀b u,h.get? b=some u->h'.get? b=some u) (p:h.objs.size≤a) (n:cb P w (cf H a o) h' a o):jH P w (cf H a o) h':=fun b u e=>by
 have f:=x.fresh p;by_cases s:b=a
 .subst s;rw [aK] at e;cases e;exact n
 .rw [az s] at e;exact (x b u e).stay (fun c v _ q=>k c v q) (fun c q=>by rw [az (cE q f)];exact q) fun c xs q=>by rw [az (cE q f)];exact q
end
noncomputable def Rd (H:Hp) (a:Addr) (u:HO):Prop:=H a=some u\/∃o,H a=some (.frz o u)
theorem Rd.ok {P:Program}{w:World}{H:Hp}{h:Heap}{a:Addr}{u:HO} (r:Rd H a u) (x:jH P w H h):cb P w H h a u:=by
 rcases r with r | ⟨o,r⟩
 .exact x a u r
 .obtain⟨_,q⟩:=x a _ r;exact q
noncomputable def Hn:Option HO->Prop
 | some (.lst _)=>True
 | some (.dK _)=>True
 | some (.dT _)=>True
 | some (.set _ _)=>True
 | some (.ins _ _ _)=>True
 | some (.ext _)=>True
 | _=>False
section
variable {P:Program}{w:World}{H:Hp}{h h':Heap}{x e:Addr}{o':HO}
theorem jH.write (ok:jH P w H h) (m:Hn (H x)) (d:e=x\/H e=some (.own x)) (k:∀b u,b≠e->h.get? b=some u->h'.get? b=some u) (o:∃u,h'.get? e=some u)
  (p:cb P w (cf H x o') h' x o'):jH P w (cf H x o') h':=fun b u q=>by
 have n:∀c y,H c=some (.own y)->c≠x:=fun c y r z=>by subst z;rw [r] at m;exact m
 have t:∀c xs,H c=some (.tup xs)->c≠x:=fun c xs r z=>by subst z;rw [r] at m;exact m
 by_cases s:b=x
 .subst s;rw [aK] at q;cases q;exact p
 .rw [az s] at q;by_cases a:b=e
  .have g:H b=some (.own x):=by
    rcases d with z | z
    .exact absurd (a.trans z) s
    .rw [a];exact z
   rw [q] at g;cases g;obtain⟨v,i⟩:=o;exact⟨v,by rw [a];exact i⟩
  .refine (ok b u q).stay (fun c v f r=>k c v ?_ r) (fun c r=>by rw [az (n c b r)];exact r) fun c xs r=>by rw [az (t c xs r)];exact r
   rcases f with rfl | f
   .exact a
   .rintro rfl;rcases d with z | z
    .exact n c b f z
    .rw [f] at z;cases z;exact s rfl
end
structure Un (fs ex:List Addr) (H H':Hp) (h h':Heap):Prop where
 keep:∀b o,h.get? b=some o->H b=none->b ∉ fs->b ∉ ex->h'.get? b=some o
 slot:∀b o,h.get? b=some o->H b=none->b ∈ fs->b ∉ ex->∃sl,h'.get? b=some { o with slots:=sl }
 free:∀b o,h.get? b=some o->H b=none->b ∉ ex->H' b=none
 there:∀b o,h.get? b=some o->b ∉ ex->∃o',h'.get? b=some o'
 tups:∀b xs,H b=some (.tup xs)->H' b=some (.tup xs)
 frzs:∀b o u,H b=some (.frz o u)->H' b=some (.frz o u)
 tbls:∀b ps,H b=some (.tbl ps)->∃more,H' b=some (.tbl (ps++more))
section
variable {fs fs' ex ex':List Addr}{H U H2:Hp}{h J h2 h':Heap}{a x e:Addr}{o:HO}
theorem Un.any (u:Un fs ex H U h J) (q:h.get? b=some N) (n:H b=none) (a:b ∉ ex):∃s,J.get? b=some { N with slots:=s }:=by
 by_cases x:b ∈ fs
 .exact u.slot b N q n x a
 .exact⟨N.slots,u.keep b N q n x a⟩
theorem Un.kept (k:∀b u,h.get? b=some u->h'.get? b=some u):Un fs ex H H h h':=
 ⟨fun b o q _ _ _=>k b o q,fun b o q _ _ _=>⟨o.slots,k b o q⟩,fun _ _ _ n _=>n,fun b o q _=>⟨o,k b o q⟩,fun _ _ q=>q,fun _ _ _ q=>q,fun _ ps q=>⟨#[],by rw [q];simp⟩⟩
theorem Un.refl:Un fs ex H H h h:=Un.kept fun _ _ q=>q
theorem Un.laid (k:∀b u,h.get? b=some u->h'.get? b=some u) (p:h.objs.size≤a) (x:H a=none):Un fs ex H (cf H a o) h h' where
 keep:=fun b u q _ _ _=>k b u q
 slot:=fun b u q _ _ _=>⟨u.slots,k b u q⟩
 free:=fun b u q n _=>by rw [az (bX (cg (Heap.lt_size q) p))];exact n
 there:=fun b u q _=>⟨u,k b u q⟩
 tups:=fun b xs q=>by rw [az (cE q x)];exact q
 frzs:=fun b u xs q=>by rw [az (cE q x)];exact q
 tbls:=fun b ps q=>⟨#[],by rw [az (cE q x),q];simp⟩
theorem Un.write (m:Hn (H x)) (p:e=x\/H e=some (.own x)) (k:∀b u,b≠e->h.get? b=some u->h'.get? b=some u) (s:∃u,h'.get? e=some u):Un fs ex H (cf H x o) h h':=by
 have t:∀b,H b=none->b≠x:=fun b n z=>by subst z;rw [n] at m;exact m
 have c:∀b,H b=none->b≠e:=fun b n z=>by
  subst z;rcases p with r | r
  .exact t b n r
  .rw [n] at r;cases r
 have f:∀b u,H b=some u->¬Hn (some u)->b≠x:=fun b u q nm z=>by subst z;rw [q] at m;exact nm m
 refine⟨fun b u q n _ _=>k b u (c b n) q,fun b u q n _ _=>⟨u.slots,k b u (c b n) q⟩,fun b u q n _=>by rw [az (t b n)];exact n,fun b u q _=>?_,
  fun b xs q=>by rw [az (f b _ q fun z=>z)];exact q,fun b u xs q=>by rw [az (f b _ q fun z=>z)];exact q,fun b ps q=>⟨#[],by rw [az (f b _ q fun z=>z),q];simp⟩⟩
 by_cases a:b=e
 .subst a;exact s
 .exact⟨u,k b u a q⟩
end
noncomputable def trk (h:Heap) (H:Hp):List Addr:=(List.range h.objs.size).filter fun a=>(H a).isSome
noncomputable def qJ (h:Heap) (H:Hp):Heap:=PySem.W.hideAll h (trk h H)
theorem xj (h:Heap) (H:Hp):(qJ h H).objs.size=h.objs.size:=PySem.W.hideAll_size _ _
variable {o:Obj}
theorem zw (e:h.get? b=some o) (n:H b=none):(qJ h H).get? b=some o:=
 PySem.W.hideAll_get _ e fun m=>by have q:(H b).isSome=true:=(iZ.mp m).2;rw [n] at q;simp at q
theorem A8 (e:(qJ h H).get? b=some o):h.get? b=some o/\H b=none:=by
 have a:h.get? b=some o:=PySem.W.of_hideAll (trk h H) e;refine⟨a,?_⟩;cases q:H b with
 | none=>rfl
 | some x=>have m:b ∈ trk h H:=iZ.mpr ⟨pI.mpr (Heap.lt_size a),by simp [q]⟩;have z:(qJ h H).get? b=none:=PySem.W.hideAll_none (trk h H) m;rw [z] at e;cases e
noncomputable def jB (g h:Heap) (L:Addr):PN:=(List.range h.objs.size).filterMap fun a=>if a=L\/(g.get? a).isSome=true then none else (h.get? a).map fun o=>(a,o)
variable {g:Heap}{L:Addr}
theorem sJ (J:a≠L) (h2:g.get? a=none) (x:h.get? a=some o):(a,o) ∈ jB g h L:=
 mV.mpr ⟨a,pI.mpr (Heap.lt_size x),by simp [J,h2,x]⟩
theorem nr (x:p ∈ jB g h L):p.1≠L/\g.get? p.1=none/\h.get? p.1=some p.2:=by
 obtain⟨b,_,e⟩:=mV.mp x;split at e
 .cases e
 .rename_i n;cases q:h.get? b with
  | none=>rw [q] at e;simp at e
  | some u=>
   rw [q] at e;simp only [Option.map_some,Option.some.injEq] at e;subst e;refine⟨fun z=>n (.inl z),?_,q⟩;show g.get? b=none;cases r:g.get? b with
   | none=>rfl
   | some v=>exact (n (.inr (by simp [r]))).elim
noncomputable def cj (g h:Heap) (L d:Addr):PN:=(jB g h L).filter fun p=>decide (p.1≠d)
theorem nu:News g L h (jB g h L):=fun p x=>let ⟨a,b,c⟩:=nr x;⟨c,a,b⟩
structure Mod (K:FG) (mg:SV) (base:Heap):Prop where
 kin:K.In base
 glob:base.Ns mainGlobals mg
 blt:∃mb,base.Ns builtinsNs mb/\∀x:Str,x≠"__name__"->mb x=bootBuiltins x
 nolimit:base.NoLimit
structure Cx where
 prog:Program
 w:World
 K:FG
 mg:SV
 base:Heap
 A:Around
 N:LS
 s₀:Shared
 H₀:Hp
 env:Env
 outer:List Env
 stack:List Env
 ex:List Addr
 fn:Str->Bool
 calm:Bool
 pn:PN
 xe:VP
noncomputable def zB (l:List Env):List Addr:=l.filterMap (·.frame)
noncomputable abbrev Cx.fs (X:Cx):List Addr:=zB X.outer
noncomputable def Ek (sc:Scope) (x:Str):Prop:=sc.names.lookup x=some .local\/sc.names.lookup x=some .cell\/sc.names.lookup x=some .free
noncomputable def Loc (sc:Scope) (x:Str):Prop:=sc.names.lookup x=some .local\/sc.names.lookup x=some .cell
noncomputable def Look (e:Env) (h:Heap) (m:SV) (x:Str) (u:Value):Prop:=
 (e.kindOf x=some .local/\m x=some u)\/((e.kindOf x=some .cell\/e.kindOf x=some .free)/\∃c,e.cells.lookup x=some c/\h.IsCell c (some u))
structure Cx.Ok (X:Cx):Prop where
 mod:Mod X.K X.mg X.base
 kind:X.env.scope.kind=.function
 glob:X.env.globals=mainGlobals
 blt:X.env.builtins=builtinsNs
 above:X.s₀.heap.objs.size≤X.env.locals
 inj:∀x y c,X.env.cells.lookup x=some c->X.env.cells.lookup y=some c->x=y
 has:∀x,(X.env.kindOf x=some .cell\/X.env.kindOf x=some .free)->∃c,X.env.cells.lookup x=some c
 cab:∀x c,X.fn x=true->X.env.cells.lookup x=some c->X.s₀.heap.objs.size≤c
 hd:X.calm=true->X.A.handled=none
 frames:X.A.frames=some X.stack
 stk:X.stack=X.outer\/(X.stack=X.env::X.outer/\X.env.frame=some X.env.locals)
 exf:∀b ∈ X.ex,b≠X.env.locals/\∀x c,X.env.cells.lookup x=some c->c≠b
 bs:∀b o,X.base.get? b=some o->X.s₀.heap.get? b=some o/\X.H₀ b=none
 bsz:X.base.objs.size≤X.s₀.heap.objs.size
 noex:∀b o,X.base.get? b=some o->b ∉ X.ex
 exfs:∀b ∈ X.ex,b ∉ X.fs
 funs:X.s₀.heap.FunFrames X.base X.outer
 frf:∀b ∈ X.fs,X.H₀ b=none
structure Inv (X:Cx) (pins:PN) (σ:List (Option V)) (H:Hp) (s:Shared):Prop where
 ok:X.Ok
 os:s.os=X.s₀.os
 bare:AllBare s.gens
 base:Un X.fs X.ex X.H₀ H X.s₀.heap s.heap
 loc:∃m,s.heap.Ns X.env.locals m/\∀(i:Nat) (x:Str) (v:V),X.N[i]? = some x->σ[i]? = some (some v)->Ek X.env.scope x->∃u,RelV v u/\Look X.env s.heap m x u
 cell:∀x c,X.env.cells.lookup x=some c->∃v,s.heap.IsCell c v
 free:H X.env.locals=none
 freeC:∀x c,X.env.cells.lookup x=some c->H c=none
 pin:∀p ∈ X.pn++pins,s.heap.get? p.1=some p.2/\H p.1=none/\p.1≠X.env.locals/\p.1 ∉ X.fs/\∀v,p.2.data≠.cell v
 hok:jH X.prog X.w H s.heap
 len:σ.length=X.N.length
section
variable {X:Cx}{B:PN}{G:List (Option V)}{H H':Hp}{s:Shared}{h':Heap}
theorem Cx.Ok.nofr (ok:X.Ok) (e:X.base.get? b=some o):b ∉ X.fs:=fun h=>by have:=(ok.funs.mem h).1;rw [e] at this;cases this
theorem Inv.bs (I:Inv X B G H s):∀b o,X.base.get? b=some o->s.heap.get? b=some o/\H b=none:=fun b o e=>
 ⟨I.base.keep b o (I.ok.bs b o e).1 (I.ok.bs b o e).2 (I.ok.nofr e) (I.ok.noex b o e),I.base.free b o (I.ok.bs b o e).1 (I.ok.bs b o e).2 (I.ok.noex b o e)⟩
theorem Inv.bk (I:Inv X B G H s):∀b o,X.base.get? b=some o->s.heap.get? b=some o:=fun b o e=>(I.bs b o e).1
theorem Inv.mod (I:Inv X B G H s):Mod X.K X.mg X.base:=I.ok.mod
theorem Inv.kIn (I:Inv X B G H s):X.K.In s.heap:=I.ok.mod.kin.keeps I.bk
theorem Inv.fr (I:Inv X B G H s):∃m,Fr X.base X.env.locals s.heap m:=
 let ⟨m,h,_⟩:=I.loc
 ⟨m,h,I.bk,aQ I.ok.bsz I.ok.above⟩
theorem Inv.lt (I:Inv X B G H s):X.env.locals < s.heap.objs.size:=let ⟨_,h,_⟩:=I.loc;h.lt
theorem Inv.sz (I:Inv X B G H s):X.s₀.heap.objs.size≤s.heap.objs.size:=aQ I.ok.above (h7 I.lt)
theorem Inv.nofs (I:Inv X B G H s) (h:s.heap.objs.size≤a):a ∉ X.fs:=fun b=>by obtain⟨_,o,x,_⟩:=I.ok.funs.mem b;exact absurd (cg (Heap.lt_size x) (aQ I.sz h)) (iW _)
theorem Inv.cne (I:Inv X B G H s):∀x c,X.env.cells.lookup x=some c->c≠X.env.locals:=fun x c e z=>by obtain⟨v,o,n,hd⟩:=I.cell x c e;obtain⟨m,⟨o',es,p,a,h,_⟩,_⟩:=I.loc;rw [z,a] at n;cases n;rw [h] at hd;cases hd
theorem Inv.funs (I:Inv X B G H s):s.heap.FunFrames X.base X.outer:=by
 have all:∀(l:List Env),(∀b ∈ zB l,b ∈ X.fs)->X.s₀.heap.FunFrames X.base l->s.heap.FunFrames X.base l:=by
  intro l;induction l with
  | nil=>intro _ _;trivial
  | cons n r i=>
   intro a c;obtain⟨k,⟨L,o,f,m,t,hd⟩,p⟩:=c;have h:L ∈ X.fs:=a L (by unfold zB;rw [jY,f];exact List.mem_cons_self);obtain⟨q,e⟩:=I.base.slot L o t (I.ok.frf L h) h fun z=>I.ok.exfs L z h
   exact⟨k,⟨L,_,f,m,e,hd⟩,i (fun b x=>a b (by unfold zB;rw [jY,f];exact aZ _ x)) p⟩
 exact all X.outer (fun _ x=>x) I.ok.funs
theorem Inv.stack (I:Inv X B G H s):s.heap.FunFrames X.base X.stack:=by
 rcases I.ok.stk with e | ⟨e,h⟩
 .rw [e];exact I.funs
 .rw [e];obtain⟨m,n,_⟩:=I.loc;refine .cons (by rw [I.ok.kind];decide) h n ?_ I.funs;exact Heap.get?_none_of_le (aQ I.ok.bsz I.ok.above)
theorem Inv.stkSub (I:Inv X B G H s):∀b ∈ zB X.stack,b ∈ X.env.locals::X.fs:=fun b h=>by
 rcases I.ok.stk with e | ⟨e,f⟩
 .rw [e] at h;exact aZ _ h
 .rw [e] at h;unfold zB at h;rw [jY,f] at h;exact h
theorem Inv.stkFree (I:Inv X B G H s):∀b ∈ zB X.stack,H b=none:=fun b h=>by
 rcases av.mp (I.stkSub b h) with e | h
 .rw [e];exact I.free
 .obtain⟨_,o,x,_⟩:=I.ok.funs.mem h;exact I.base.free b o x (I.ok.frf b h) fun z=>I.ok.exfs b z h
theorem Inv.step {g':Array GenState}{t':Nat}{d':Drawn}{ch:List Addr} (I:Inv X B G H s)
  (a:∀b ∈ ch,(b ∈ X.ex\/X.s₀.heap.objs.size≤b)/\b≠X.env.locals/\(∀x c,X.env.cells.lookup x=some c->c≠b)/\∀p ∈ X.pn++B,p.1≠b)
  (t:∀b o,b≠X.env.locals->b ∉ X.fs->b ∉ ch->s.heap.get? b=some o->H b=none->h'.get? b=some o)
  (slot:∀b o,b≠X.env.locals->b ∈ X.fs->b ∉ ch->s.heap.get? b=some o->H b=none->∃J,h'.get? b=some { o with slots:=J }) (f:∀b o,b ∉ ch->s.heap.get? b=some o->H b=none->H' b=none)
  (y:∀b o,b ∉ ch->s.heap.get? b=some o->∃o',h'.get? b=some o')
  (D:∀b xs,H b=some (.tup xs)->H' b=some (.tup xs)) (P:∀b o u,H b=some (.frz o u)->H' b=some (.frz o u)) (A:∀b ps,H b=some (.tbl ps)->∃more,H' b=some (.tbl (ps++more)))
  (ns:∀m,s.heap.Ns X.env.locals m->h'.Ns X.env.locals m) (E:jH X.prog X.w H' h') (U:AllBare g') :
  Inv X B G H' { s with heap:=h',gens:=g',drawn:=d',toks:=t' }:=by
 have L:∀b o,X.s₀.heap.get? b=some o->b≠X.env.locals:=fun b o e=>bX (cg (Heap.lt_size e) I.ok.above);have C:∀b o,X.s₀.heap.get? b=some o->b ∉ X.ex->b ∉ ch:=fun b o e h j=>by
  rcases (a b j).1 with z | z
  .exact h z
  .exact absurd (cg (Heap.lt_size e) z) (iW _)
 have K:∀x c,X.env.cells.lookup x=some c->∀v,s.heap.IsCell c v->h'.IsCell c v:=fun x c e v Y=>by
  obtain⟨o,S,hd⟩:=Y;have w:c ∉ ch:=fun z=>(a c z).2.2.1 x c e rfl;by_cases N:c ∈ X.fs
  .obtain⟨J,q⟩:=slot c o (I.cne x c e) N w S (I.freeC x c e);exact⟨_,q,hd⟩
  .exact⟨o,t c o (I.cne x c e) N w S (I.freeC x c e),hd⟩
 refine⟨I.ok,I.os,U,⟨fun b o e n j h=>?_,fun b o e n j h=>?_,fun b o e n h=>?_,fun b o e h=>?_,fun b xs e=>D b xs (I.base.tups b xs e),fun b o xs e=>P b o xs (I.base.frzs b o xs e),fun b ps e=>?_⟩,?_,fun x c e=>?_,?_,fun x c e=>?_,fun p O=>?_,E,I.len⟩
 .exact t b o (L b o e) j (C b o e h) (I.base.keep b o e n j h) (I.base.free b o e n h)
 .obtain⟨J,g⟩:=I.base.slot b o e n j h;obtain⟨M,F⟩:=slot b _ (L b o e) j (C b o e h) g (I.base.free b o e n h);exact⟨M,F⟩
 .obtain⟨o',g⟩:=I.base.there b o e h;exact f b o' (C b o e h) g (I.base.free b o e n h)
 .obtain⟨o',g⟩:=I.base.there b o e h;exact y b o' (C b o e h) g
 .obtain⟨Z,g⟩:=I.base.tbls b ps e;obtain⟨m2,F⟩:=A b _ g;exact⟨Z++m2,by rw [F,Array.append_assoc]⟩
 .obtain⟨m,W,V⟩:=I.loc;refine⟨m,ns m W,fun i x v g F T=>?_⟩;obtain⟨u,r,l⟩:=V i x v g F T;refine⟨u,r,?_⟩;rcases l with l | ⟨k,c,e,z⟩
  .exact .inl l
  .exact .inr ⟨k,c,e,K x c e _ z⟩
 .obtain⟨v,z⟩:=I.cell x c e;exact⟨v,K x c e v z⟩
 .obtain⟨m,⟨o,_,_,S,_⟩,_⟩:=I.loc;exact f _ o (fun z=>(a _ z).2.1 rfl) S I.free
 .obtain⟨v,o,S,hd⟩:=I.cell x c e;exact f c o (fun z=>(a c z).2.2.1 x c e rfl) S (I.freeC x c e)
 .obtain⟨e,n,Q,R,d⟩:=I.pin p O;have w:p.1 ∉ ch:=fun z=>(a p.1 z).2.2.2 p O rfl;exact⟨t p.1 p.2 Q R w e n,f p.1 p.2 w e n,Q,R,d⟩
theorem Inv.un {t':Nat} (I:Inv X B G H s) (u:Un X.fs [] H H' s.heap h') (k:jH X.prog X.w H' h'):Inv X B G H' { s with heap:=h',toks:=t' }:=by
 obtain⟨m,⟨o,es,q,f,r⟩,_⟩:=id I.loc;obtain⟨l,L⟩:=u.any f I.free (by simp);exact I.step (g':=s.gens) (d':=s.drawn) (ch:=[]) (fun _ z=>nomatch z) (fun b o _ a _ e n=>u.keep b o e n a (by simp)) (fun b o _ a _ e n=>u.slot b o e n a (by simp)) (fun b o _ e n=>u.free b o e n (by simp)) (fun b o _ e=>u.there b o e (by simp)) u.tups u.frzs u.tbls (fun v c=>by obtain⟨o',x,p,h,t⟩:=c;rw [f] at h;cases h;exact⟨_,x,p,L,t⟩) k I.bare
theorem Inv.call {g':Array GenState}{t':Nat}{d':Drawn}{ch:List Addr} (I:Inv X B G H s) (u:Un (zB X.stack) ch H H' s.heap h') (q:jH X.prog X.w H' h') (g:AllBare g')
  (a:∀b ∈ ch,(b ∈ X.ex\/X.s₀.heap.objs.size≤b)/\b≠X.env.locals/\(∀x c,X.env.cells.lookup x=some c->c≠b)/\∀p ∈ X.pn++B,p.1≠b) :
  Inv X B G H' { s with heap:=h',gens:=g',drawn:=d',toks:=t' }:=by
 obtain⟨m,⟨o,es,j,v,r⟩,_⟩:=id I.loc;obtain⟨y,L⟩:=u.any v I.free fun z=>(a _ z).2.1 rfl;exact I.step (ch:=ch) a (fun b o L d h e n=>u.keep b o e n (fun z=>(av.mp (I.stkSub b z)).elim L d) h) (fun b o _ _ h e n=>u.any e n h) (fun b o h e n=>u.free b o e n h) (fun b o h e=>u.there b o e h) u.tups u.frzs u.tbls (fun l w=>by obtain⟨o',t,f,k,i⟩:=w;rw [v] at k;cases k;exact⟨_,t,f,L,i⟩) q g
theorem Inv.turned {t':Nat}{i:Addr} (I:Inv X B G H s) (k:∀b o,b≠i->s.heap.get? b=some o->h'.get? b=some o) (g:H i=none) (L:i≠X.env.locals)
  (J:i ∈ X.ex\/X.s₀.heap.objs.size≤i) (h2:∀x c,X.env.cells.lookup x=some c->c≠i) (f:∀p ∈ X.pn++B,p.1≠i):Inv X B G H { s with heap:=h',toks:=t' }:=by
 have t:∀b u,H b=some u->b≠i:=fun b u e z=>by rw [z,g] at e;cases e
 refine I.step (g':=s.gens) (d':=s.drawn) (ch:=[i]) (fun b d=>?_) (fun b o _ _ h e _=>k b o (fun z=>h (by simp [z])) e) (fun b o _ _ h e _=>⟨o.slots,k b o (fun z=>h (by simp [z])) e⟩) (fun _ _ _ _ n=>n)
  (fun b o h e=>⟨o,k b o (fun z=>h (by simp [z])) e⟩) (fun _ _ e=>e) (fun _ _ _ e=>e) (fun b ps e=>⟨#[],by rw [e];simp⟩) (fun m w=>?_) (fun b u e=>?_) I.bare
 .have e:b=i:=by simpa using d
  subst e;exact⟨J,L,h2,f⟩
 .obtain⟨o,es,a,j,r⟩:=w;exact⟨o,es,a,k _ o (Ne.symm L) j,r⟩
 .refine (I.hok b u e).stay (fun c v h q=>k c v ?_ q) (fun _ q=>q) fun _ _ q=>q;rcases h with z | z
  .rw [z];exact t b u e
  .exact t c _ z
theorem Inv.tok (I:Inv X B G H s) (t:Nat):Inv X B G H { s with toks:=t }:=I.un (h':=s.heap) (t':=t) Un.refl I.hok
theorem Inv.kept {t':Nat} (I:Inv X B G H s) (k:∀b u,s.heap.get? b=some u->h'.get? b=some u):Inv X B G H { s with heap:=h',toks:=t' }:=I.un (Un.kept k) (I.hok.kept k)
theorem Inv.laid {a:Addr}{o:HO}{t':Nat} (I:Inv X B G H s) (k:∀b u,s.heap.get? b=some u->h'.get? b=some u) (h:s.heap.objs.size≤a) (n:cb X.prog X.w (cf H a o) h' a o) :
  Inv X B G (cf H a o) { s with heap:=h',toks:=t' }:=I.un (Un.laid k h (I.hok.fresh h)) (I.hok.laid k h n)
theorem Inv.write {x e:Addr}{o:HO}{t:Nat} (I:Inv X B G H s) (m:Hn (H x)) (a:e=x\/H e=some (.own x)) (k:∀b u,b≠e->s.heap.get? b=some u->h'.get? b=some u) (h:∃u,h'.get? e=some u)
  (n:cb X.prog X.w (cf H x o) h' x o):Inv X B G (cf H x o) { s with heap:=h',toks:=t }:=I.un (Un.write m a k h) (I.hok.write m a k h n)
theorem Inv.pins_of (I:Inv X B G H s) (h:∀p ∈ N,s.heap.get? p.1=some p.2/\H p.1=none/\p.1≠X.env.locals/\p.1 ∉ X.fs/\∀v,p.2.data≠.cell v):Inv X N G H s:=
 ⟨I.ok,I.os,I.bare,I.base,I.loc,I.cell,I.free,I.freeC,fun p x=>(dh.mp x).elim (fun z=>I.pin p (k_ _ z)) (h p),I.hok,I.len⟩
theorem sD {N:LS} (s:N.Nodup) {i j:Nat}{x:Str} (a:N[i]? = some x) (b:N[j]? = some x):i=j:=by obtain⟨J,e⟩:=List.getElem?_eq_some_iff.mp a;obtain⟨h2,h⟩:=List.getElem?_eq_some_iff.mp b;exact (List.getElem_inj s).mp (e.trans h.symm)
theorem oX {M:Model}{A:Around}{E:VP}{i:Nat}{x:Str}{v:V}{u:Value}{Q:Unit->Shared->Prop} (I:Inv X B G H s) (hN:X.N.Nodup) (q:X.N[i]? = some x) (F:Loc X.env.scope x) (r:RelV v u)
  (h:∀z,Inv X B (G.set i (some v)) H z->(∃a,Heap.SameBut a s.heap z.heap/\(a=X.env.locals\/X.env.cells.lookup x=some a))->Q () z) (hf:X.fn x=true\/X.env.scope.names.lookup x=some .local:=by first | exact .inl rfl | exact .inr rfl | assumption):wpAny M A (storeName X.env x u) Q E s:=by
 obtain⟨m,hn,hl⟩:=id I.loc;have U:(X.env.scope.kind == .class || (X.env.scope.kind == .module && X.env.locals != X.env.globals))=false:=by rw [I.ok.kind];rfl
 have C:i < G.length:=by rw [I.len];exact (List.getElem?_eq_some_iff.mp q).1
 have J:=I.cne;have l:∀{a:Addr}{h':Heap},(∃o,s.heap.get? a=some o/\H a=none)->Heap.SameBut a s.heap h'->jH X.prog X.w H h':=fun {a h'} ha w b ob e=>by
  obtain⟨_,_,K⟩:=ha;refine (I.hok b ob e).stay (fun c w' S f=>(w.2 c ?_).trans f) (fun _ f=>f) fun _ _ f=>f;rintro rfl;rcases S with rfl | S
  .rw [K] at e;cases e
  .rw [K] at S;cases S
 rcases F with D | D
 .refine wpAny_storeName_local D hn (fun h' hn' w=>?_) U;obtain⟨oL,_,_,hoL,_⟩:=id hn;refine h _ ⟨I.ok,I.os,I.bare,⟨fun b o e n L F=>?_,fun b o e n L F=>?_,I.base.free,fun b o e F=>?_,I.base.tups,I.base.frzs,I.base.tbls⟩,⟨_,hn',fun j y v' g P e3=>?_⟩,fun y c e=>?_,I.free,I.freeC,fun p hp=>?_,l ⟨oL,hoL,I.free⟩ w,by simpa using I.len⟩ ⟨_,w,.inl rfl⟩
  .exact (w.2 b (bX (cg (Heap.lt_size e) I.ok.above))).trans (I.base.keep b o e n L F)
  .obtain⟨sl,g⟩:=I.base.slot b o e n L F;exact⟨sl,(w.2 b (bX (cg (Heap.lt_size e) I.ok.above))).trans g⟩
  .obtain⟨o',g⟩:=I.base.there b o e F;exact⟨o',(w.2 b (bX (cg (Heap.lt_size e) I.ok.above))).trans g⟩
  .by_cases O:j=i
   .subst O;rw [q] at g;cases g;rw [dN C] at P;cases P;exact⟨u,r,.inl ⟨D,by simp⟩⟩
   .rw [bx (Ne.symm O)] at P;obtain⟨u',r',f⟩:=hl j y v' g P e3;refine⟨u',r',?_⟩;rcases f with ⟨k,e⟩ | ⟨k,c,e,t⟩
    .refine .inl ⟨k,?_⟩;have:y≠x:=fun e=>O (sD hN g (e ▸ q));simp [this,e]
    .exact .inr ⟨k,c,e,t.sameBut w (J y c e)⟩
  .obtain⟨w',t⟩:=I.cell y c e;exact⟨w',t.sameBut w (J y c e)⟩
  .obtain⟨e,n,ne,nf,d⟩:=I.pin p hp;exact⟨(w.2 p.1 ne).trans e,n,ne,nf,d⟩
 .have N:X.fn x=true:=by
   rcases hf with t | t
   .exact t
   .rw [t] at D;cases D
  obtain⟨c,S⟩:=I.ok.has x (.inl D);obtain⟨w',t⟩:=I.cell x c S;refine wpAny_storeName_cell I.ok.kind D S t (fun h' R w=>?_);obtain⟨oc,W,Y⟩:=id t;refine h { s with heap:=h' } ⟨I.ok,I.os,I.bare,⟨fun b o e n L F=>?_,fun b o e n L F=>?_,I.base.free,fun b o e F=>?_,I.base.tups,I.base.frzs,I.base.tbls⟩,⟨m,hn.sameBut w (Ne.symm (J x c S)),fun j y v' g P e3=>?_⟩,fun y Z e=>?_,I.free,I.freeC,fun p hp=>?_,l ⟨oc,W,I.freeC x c S⟩ w,by simpa using I.len⟩ ⟨c,w,.inr S⟩
  .exact (w.2 b (bX (cg (Heap.lt_size e) (I.ok.cab x c N S)))).trans (I.base.keep b o e n L F)
  .obtain⟨sl,g⟩:=I.base.slot b o e n L F;exact⟨sl,(w.2 b (bX (cg (Heap.lt_size e) (I.ok.cab x c N S)))).trans g⟩
  .obtain⟨o',g⟩:=I.base.there b o e F;exact⟨o',(w.2 b (bX (cg (Heap.lt_size e) (I.ok.cab x c N S)))).trans g⟩
  .by_cases O:j=i
   .subst O;rw [q] at g;cases g;rw [dN C] at P;cases P;exact⟨u,r,.inr ⟨.inl D,c,S,R⟩⟩
   .rw [bx (Ne.symm O)] at P;obtain⟨u',r',f⟩:=hl j y v' g P e3;refine⟨u',r',?_⟩;rcases f with f | ⟨k,Z,e,z'⟩
    .exact .inl f
    .refine .inr ⟨k,Z,e,z'.sameBut w ?_⟩;rintro rfl;exact O (sD hN g (I.ok.inj _ _ _ e S ▸ q))
  .by_cases T:Z=c
   .subst T;exact⟨_,R⟩
   .obtain⟨w2,z2⟩:=I.cell y Z e;exact⟨w2,z2.sameBut w T⟩
  .obtain⟨e,n,ne,nf,d⟩:=I.pin p hp;refine⟨(w.2 p.1 ?_).trans e,n,ne,nf,d⟩;intro f;rw [f,W] at e;have q':oc=p.2:=Option.some.inj e;exact d w' (by rw [<- q'];exact Y)
theorem si (I:Inv X B G H s) (N:X.N.Nodup) (q:X.N[i]? = some x) (e:Loc X.env.scope x) (r:RelV v u)
  (h:∀z,Inv X B (G.set i (some v)) H z->Q () z) (f:X.fn x=true\/X.env.scope.names.lookup x=some .local:=by first | exact .inl rfl | exact .inr rfl | assumption):wpAny M A (storeName X.env x u) Q E s:=
 oX I N q e r (fun z a _=>h z a) f
theorem Inv.call' (I:Inv X B G H s) (n:z.os=s.os) (u:Un (zB X.stack) N H H' s.heap z.heap) (o:jH X.prog X.w H' z.heap) (a:AllBare z.gens)
  (h:∀b ∈ N,(b ∈ X.ex\/X.s₀.heap.objs.size≤b)/\b≠X.env.locals/\(∀x c,X.env.cells.lookup x=some c->c≠b)/\∀p ∈ X.pn++B,p.1≠b):Inv X B G H' z:=by
 obtain⟨h',g,d,t,o'⟩:=z;have e:o'=s.os:=n;subst e;exact I.call (g':=g) (t':=t) (d':=d) u o a h
end
noncomputable abbrev XK:=Value->Option Addr->Hp->Prop
noncomputable abbrev St:=List (Option V)
noncomputable abbrev VK:=V->Hp->Prop
noncomputable abbrev TE:=St->Hp->VK->Prop
noncomputable abbrev TT:=St->Hp->(Bool->Hp->Prop)->Prop
noncomputable abbrev TA:=St->Hp->(List V->Hp->Prop)->Prop
structure Ends where
 nx:St->Hp->Prop
 rt:VK
 bk:St->Hp->Prop:=fun _ _=>False
 ct:St->Hp->Prop:=fun _ _=>False
noncomputable abbrev TS:=Ends->St->Hp->Prop
noncomputable def EP (X:Cx) (B:PN) (G:St) (Q:VK) (u:Value) (z:Shared):Prop:=∃v H',Inv X B G H' z/\RelV v u/\Q v H'
noncomputable def TP (X:Cx) (B:PN) (G:St) (Q:Bool->Hp->Prop) (b:Bool) (z:Shared):Prop:=∃H',Inv X B G H' z/\Q b H'
noncomputable def AP (X:Cx) (B:PN) (G:St) (Q:List V->Hp->Prop) (Y:LV) (z:Shared):Prop:=∃v H',Inv X B G H' z/\aI v Y/\Q v H'
noncomputable def SP (X:Cx) (B:PN) (D:Ends) (f:Flow) (z:Shared):Prop:=
 match f with
 | .next=>∃h H',Inv X B h H' z/\D.nx h H'
 | .brk=>∃h H',Inv X B h H' z/\D.bk h H'
 | .cont=>∃h H',Inv X B h H' z/\D.ct h H'
 | .ret u=>∃v h H',Inv X B h H' z/\RelV v u/\D.rt v H'
noncomputable def PE (X:Cx) (e:Expr) (t:TE):Prop:=
 ∀(B:PN) (s:Shared) (G:St) (H:Hp) (Q:VK),Inv X B G H s->t G H Q->wpAny (model X.prog X.w) X.A (eval e X.env) (EP X B G Q) X.xe s
noncomputable def PT (X:Cx) (e:Expr) (t:TT):Prop:=
 ∀(B:PN) (s:Shared) (G:St) (H:Hp) (Q:Bool->Hp->Prop),Inv X B G H s->t G H Q->wpAny (model X.prog X.w) X.A (isTrue e X.env (eval e X.env)) (TP X B G Q) X.xe s
noncomputable def PW (X:Cx) (e:Expr) (t:TT):Prop:=
 ∀(w:Sem Value) (B:PN) (s:Shared) (G:St) (H:Hp) (Q:Bool->Hp->Prop),Inv X B G H s->t G H Q->wpAny (model X.prog X.w) X.A (isTrue e X.env w) (TP X B G Q) X.xe s
variable {X:Cx}{e:Expr}
theorem PW.pt (h:PW X e t):PT X e t:=h _
noncomputable def PA (X:Cx) (es:Ab) (t:TA):Prop:=
 ∀(O:Pos) (B:PN) (s:Shared) (G:St) (H:Hp) (Q:List V->Hp->Prop),Inv X B G H s->t G H Q->wpAny (model X.prog X.w) X.A (spliced (backTo O (starEach es X.env))) (AP X B G Q) X.xe s
noncomputable def PS (X:Cx) (st:Stmt) (t:TS):Prop:=
 ∀(B:PN) (s:Shared) (G:St) (H:Hp) (D:Ends),Inv X B G H s->t D G H->wpAny (model X.prog X.w) X.A (exec st X.env) (SP X B D) X.xe s
noncomputable def mw (X:Cx) (st:List Stmt) (t:TS):Prop:=
 ∀(B:PN) (s:Shared) (G:St) (H:Hp) (D:Ends),Inv X B G H s->t D G H->wpAny (model X.prog X.w) X.A (execs st X.env) (SP X B D) X.xe s
variable {M:Model}{A:Around}{E:VP}{s:Shared}
theorem cC (h:wpAny M A t Q E s) (e:∀a s,Q a s->N a s):wpAny M A t N E s:=wpAny_mono h e fun _ _ x=>x
section
variable {X:Cx}
noncomputable def Fo (i:Nat):TE:=fun G H Q=>∃v,G[i]? = some (some v)/\Q v H
noncomputable def tC (v:V):TE:=fun _ H Q=>Q v H
theorem yw (N:X.N[i]? = some x) (q:Ek X.env.scope x) (hd:(x == ("__debug__":Str))=false:=by decide) (d:(x == ("__classdict__":Str))=false:=by decide):PE X (.Name x O) (Fo i):=by
 intro B s G H Q I h;obtain⟨v,e,h⟩:=h;obtain⟨m,p,b⟩:=I.loc;obtain⟨u,r,l⟩:=b i x v N e q;have f:EP X B G Q u s:=⟨v,H,I,r,h⟩;rcases l with ⟨k,t⟩ | ⟨k,c,n,a⟩
 .exact wpAny_Name (wpAny_loadName_local I.ok.kind k p t f) hd
 .rcases k with k | k
  .exact wpAny_Name (wpAny_loadName_cell I.ok.kind k n a f) hd
  .exact wpAny_Name (wpAny_loadName_free I.ok.kind k n a f d) hd
theorem Dk {i N O}:PE X (.Constant (.int i) N O) (tC (.int i)):=fun _ _ _ H _ I h=>wpAny_Constant_int ⟨.int i,H,I.tok _,⟨_,rfl⟩,h⟩
theorem FU {b N O}:PE X (.Constant (.bool b) N O) (tC (.bl b)):=fun _ _ _ H _ I h=>Constant_bool ⟨.bl b,H,I,rfl,h⟩
theorem Dj {N O}:PE X (.Constant .none N O) (tC .non):=fun _ _ _ H _ I h=>Constant_none ⟨.non,H,I,rfl,h⟩
theorem Dg {x N O}:PE X (.Constant (.str x) N O) (tC (.str x)):=fun _ _ _ H _ I h=>Calls.Constant_str ⟨.str x,H,I.tok _,⟨_,rfl⟩,h⟩
noncomputable def Gl (X:Cx) (x:Str):Prop:=X.env.kindOf x=some .globalImplicit
theorem qG (I:Inv X B G H s) (g:Gl X x) (m:X.mg x=some u) (h:Q u s)
  (hd:(x == ("__debug__":Str))=false:=by decide):wpAny (model X.prog X.w) X.A (eval (.Name x O) X.env) Q E s:=
 Calls.Name_function_global I.ok.kind g (Calls.loadGlobal_global (by rw [I.ok.glob];exact I.mod.glob.keeps I.bk) m h) hd
theorem i9 (I:Inv X B G H s) (g:Gl X x) (m:X.mg x=none) (v:bootBuiltins x=some u) (h:Q u s)
  (n:x≠"__name__":=by decide) (hd:(x == ("__debug__":Str))=false:=by decide):wpAny (model X.prog X.w) X.A (eval (.Name x O) X.env) Q E s:=by
 obtain⟨b,J,h2⟩:=I.mod.blt;exact Calls.Name_function_global I.ok.kind g (Calls.loadGlobal_builtin (by rw [I.ok.glob];exact I.mod.glob.keeps I.bk) m (by rw [I.ok.blt];exact J.keeps I.bk) ((h2 x n).trans v) h) hd
theorem A1 (g:Gl X x) (m:X.mg x=some u) (r:RelV v u) (hd:(x == ("__debug__":Str))=false:=by decide):PE X (.Name x O) (tC v):=
 fun _ _ _ H _ I h=>qG I g m ⟨v,H,I,r,h⟩ hd
theorem A2 (g:Gl X x) (m:X.mg x=none) (a:bootBuiltins x=some u) (r:RelV v u) (n:x≠"__name__":=by decide) (hd:(x == ("__debug__":Str))=false:=by decide):PE X (.Name x O) (tC v):=
 fun _ _ _ H _ I h=>i9 I g m a ⟨v,H,I,r,h⟩ n hd
noncomputable def K1 (ta tb:TE) (k:Int->Int->Hp->Prop):St->Hp->Prop:=fun G H=>ta G H fun x U=>tb G U fun y H2=>∃i j,x=.int i/\y=.int j/\k i j H2
variable {a b:Expr}{ta tb:TE}{O:Pos}
noncomputable def wM (p:Int->Int->Bool) (ta tb:TE):TE:=fun G H Q=>K1 ta tb (fun i j H2=>Q (.bl (p i j)) H2) G H
noncomputable abbrev LF:TE->TE->TE:=wM fun i j=>decide (i < j)
noncomputable abbrev LG:TE->TE->TE:=wM fun i j=>decide (i≤j)
noncomputable abbrev LH:TE->TE->TE:=wM fun i j=>decide (j < i)
noncomputable abbrev LI:TE->TE->TE:=wM fun i j=>decide (j≤i)
noncomputable abbrev KZ:TE->TE->TE:=wM fun i j=>decide (i=j)
noncomputable abbrev KW:TE->TE->TE:=wM fun i j=>!decide (i=j)
variable {tA tB':TT}{cj:Ab}
noncomputable def Jk (t u:TT):TT:=fun G H Q=>t G H fun c U=>if c=true then u G U Q else Q false U
noncomputable def KU (t u:TT):TT:=fun G H Q=>t G H fun c U=>if c=true then Q true U else u G U Q
noncomputable def Je (t:TT):TT:=fun G H Q=>t G H fun c U=>Q (!c) U
theorem AM (x:PT X a tA):PW X (.BoolOp .And [a] O) tA:=by
 intro w B s G H Q I h;refine isTrue_and (cC (x B s G H Q I h) fun c n e=>?_);cases c with
 | true=>exact isTrue_and_nil e
 | false=>exact e
theorem C3 (x:PT X a tA):PW X (.BoolOp .Or [a] O) tA:=by
 intro w B s G H Q I h;refine isTrue_or (cC (x B s G H Q I h) fun c n e=>?_);cases c with
 | false=>exact isTrue_or_nil e
 | true=>exact e
theorem C4 (e:PT X a tA) (n:PW X (.BoolOp .And (b::cj) O) tB'):PW X (.BoolOp .And (a::b::cj) O) (Jk tA tB'):=by
 intro w B s G H Q I h;refine isTrue_and (cC (e B s G H _ I h) fun c k z=>?_);obtain⟨U,x,q⟩:=z;cases c with
 | true=>exact n w B k G U Q x q
 | false=>exact⟨U,x,q⟩
theorem FP (e:PT X a tA) (n:PW X (.BoolOp .Or (b::cj) O) tB'):PW X (.BoolOp .Or (a::b::cj) O) (KU tA tB'):=by
 intro w B s G H Q I h;refine isTrue_or (cC (e B s G H _ I h) fun c k z=>?_);obtain⟨U,x,q⟩:=z;cases c with
 | true=>exact⟨U,x,q⟩
 | false=>exact n w B k G U Q x q
theorem C5 (x:PT X a tA):PT X (.UnaryOp .Not a O) (Je tA):=by intro B s G H Q I h;exact isTrue_not (x B s G H (fun c U=>Q (!c) U) I h)
noncomputable def FA (ta tb:TE):TE:=fun G H Q=>ta G H fun x U=>∃c,x=.bl c/\if c=true then tb G U Q else Q (.bl false) U
noncomputable def Jd (ta tb:TE):TE:=fun G H Q=>ta G H fun x U=>∃c,x=.bl c/\if c=true then Q (.bl true) U else tb G U Q
noncomputable def Fq (ta:TE):TE:=fun G H Q=>ta G H fun x U=>∃c,x=.bl c/\Q (.bl (!c)) U
theorem Dh {N} (h:PE X a t):PE X (.BoolOp N [a] O) t:=fun B s G H Q I hw=>BoolOp_one (h B s G H Q I hw)
theorem Dm (n:PE X a ta) (k:PE X (.BoolOp .And (b::cj) O) tb):PE X (.BoolOp .And (a::b::cj) O) (FA ta tb):=by
 intro B s G H Q I h;refine BoolOp_and (cC (n B s G H _ I h) fun v f z=>?_);obtain⟨x,U,e,r,q⟩:=z;obtain⟨c,rfl,q⟩:=q;cases r;refine i0 ?_;cases c with
 | true=>exact k B f G U Q e q
 | false=>exact⟨.bl false,U,e,rfl,q⟩
theorem FS (n:PE X a ta) (k:PE X (.BoolOp .Or (b::cj) O) tb):PE X (.BoolOp .Or (a::b::cj) O) (Jd ta tb):=by
 intro B s G H Q I h;refine BoolOp_or (cC (n B s G H _ I h) fun v f z=>?_);obtain⟨x,U,e,r,q⟩:=z;obtain⟨c,rfl,q⟩:=q;cases r;refine i0 ?_;cases c with
 | false=>exact k B f G U Q e q
 | true=>exact⟨.bl true,U,e,rfl,q⟩
theorem Di (n:PE X a ta):PE X (.UnaryOp .Not a O) (Fq ta):=by intro B s G H Q I h;refine UnaryOp_ (cC (n B s G H _ I h) fun v k z=>?_);obtain⟨x,U,e,r,q⟩:=z;obtain⟨c,rfl,q⟩:=q;cases r;exact not_of (i0 ⟨.bl (!c),U,e,rfl,q⟩)
noncomputable def KY (t:TT) (ta tb:TE):TE:=fun G H Q=>t G H fun c U=>if c=true then ta G U Q else tb G U Q
theorem yB (f:PT X c tA) (n:PE X a ta) (k:PE X b tb):PE X (.IfExp c a b O) (KY tA ta tb):=by
 intro B s G H Q I h;refine wpAny_IfExp (cC (f B s G H _ I h) fun d e z=>?_);obtain⟨U,x,q⟩:=z;cases d with
 | true=>exact n B e G U Q x q
 | false=>exact k B e G U Q x q
end
noncomputable def gL (K:FG) (H:Hp) (a:Addr) (xs:List V):Prop:=
 Rd H a (.lst xs) \/
  ∃(o:Obj) (i:Array Value) (n:Nat),K.lookup a=some o/\o.cls=.type "list"/\o.dict=none/\o.data=.seq i n/\i.size≤sizeLine/\aI xs i.toList
noncomputable def mP (K:FG) (H:Hp) (a:Addr) (xs:List V):Prop:=
 Rd H a (.tup xs) \/
  ∃(o:Obj) (i:Array Value) (n:Nat),K.lookup a=some o/\o.cls=.type "tuple"/\o.dict=none/\o.data=.seq i n/\i.size≤sizeLine/\aI xs i.toList
noncomputable def JZ:Value->Option V
 | .none=>some .non
 | .bool b=>some (.bl b)
 | .int i _=>some (.int i)
 | .str x _=>some (.str x)
 | .bytes b _=>some (.byt b)
 | .float b _=>some (.flt b)
 | .ref a=>some (.ref a)
 | .type n=>some (.ty n)
 | _=>none
theorem RelV.abs (r:RelV x u):JZ u=some x:=by
 cases x with
 | non=>cases r;rfl
 | bl _=>cases r;rfl
 | int _=>obtain⟨t,rfl⟩:=r;rfl
 | str _=>obtain⟨t,rfl⟩:=r;rfl
 | byt _=>obtain⟨t,rfl⟩:=r;rfl
 | flt _=>obtain⟨t,rfl⟩:=r;rfl
 | ref _=>cases r;rfl
 | ty _=>cases r;rfl
variable {y:V}
theorem RelV.inj (r:RelV x u) (q:RelV y u):x=y:=Option.some.inj (r.abs.symm.trans q.abs)
theorem aI.inj:∀{xs ys:List V}{Y:LV},aI xs Y->aI ys Y->xs=ys
 | _,_,_,.nil,.nil=>rfl
 | _,_,_,.cons r t,.cons h x=>by rw [r.inj h,aI.inj t x]
section
variable {X:Cx}{B:PN}{G:St}{H:Hp}{s:Shared}{a:Addr}{xs ys:List V}
theorem gL.of {K:FG} (h:H a=some (.lst xs)):gL K H a xs:=.inl (.inl h)
theorem Inv.list (I:Inv X B G H s) (h:gL X.K H a xs):∃i:LV,aI xs i/\PlainL s.heap a i.toArray/\xs.length≤sizeLine:=by
 rcases h with h | ⟨o,i,n,k,c,hd,x,f,r⟩
 .obtain⟨z,i,n,r,e⟩:=h.ok I.hok;exact⟨i,r,⟨_,n,e,rfl,rfl,rfl⟩,z⟩
 .refine⟨i.toList,r,⟨o,n,I.kIn a o k,c,hd,by simpa using x⟩,?_⟩;have e:=r.length;simp only [kZ] at e;lia
theorem Inv.tuple (I:Inv X B G H s) (h:mP X.K H a xs):∃i:LV,aI xs i/\IsTup s.heap a i.toArray/\xs.length≤sizeLine:=by
 rcases h with h | ⟨o,i,n,k,c,_,x,f,r⟩
 .obtain⟨z,i,r,p⟩:=h.ok I.hok;exact⟨i,r,p.tup,z⟩
 .refine⟨i.toList,r,⟨o,I.kIn a o k,c,n,by simpa using x⟩,?_⟩;have e:=r.length;simp only [kZ] at e;lia
theorem Inv.tupleN (I:Inv X B G H s) (h:mP X.K H a xs):∃i:LV,aI xs i/\lK s.heap a i.toArray:=by
 rcases h with q | ⟨o,v,m,e,x,n,k,_,r⟩
 .exact⟨_,(q.ok I.hok).2.choose_spec⟩
 .exact⟨v.toList,r,o,I.kIn a o e,⟨x,m,by simpa using k⟩,n⟩
theorem Inv.list_inj (I:Inv X B G H s) (h:gL X.K H a xs) (h':gL X.K H a ys):xs=ys:=by
 obtain⟨t,r,⟨o,n,e,_,_,d⟩,_⟩:=I.list h;obtain⟨i,b,⟨o',c,k,_,_,x⟩,_⟩:=I.list h';rw [e] at k;cases k;rw [d] at x;injection x with f _;have:t=i:=by simpa using congrArg Array.toList f
 subst this;exact r.inj b
theorem Inv.tuple_inj (I:Inv X B G H s) (h:mP X.K H a xs) (h':mP X.K H a ys):xs=ys:=by
 obtain⟨t,r,⟨o,e,_,n,d⟩,_⟩:=I.tuple h;obtain⟨i,b,⟨o',k,_,c,x⟩,_⟩:=I.tuple h';rw [e] at k;cases k;rw [d] at x;injection x with f _;have:t=i:=by simpa using congrArg Array.toList f
 subst this;exact r.inj b
end
noncomputable abbrev Cx.wish (X:Cx) (E:VP):Cx:={ X with xe:=E }
noncomputable abbrev Cx.nox (X:Cx):Cx:=X.wish fun _ _=>False
theorem Cx.Ok.wish (ok:X.Ok) (E:VP):(X.wish E).Ok:=
 ⟨ok.mod,ok.kind,ok.glob,ok.blt,ok.above,ok.inj,ok.has,ok.cab,ok.hd,ok.frames,ok.stk,ok.exf,ok.bs,ok.bsz,ok.noex,ok.exfs,ok.funs,ok.frf⟩
theorem Cx.Ok.unwish (ok:(X.wish E).Ok):X.Ok:=
 ⟨ok.mod,ok.kind,ok.glob,ok.blt,ok.above,ok.inj,ok.has,ok.cab,ok.hd,ok.frames,ok.stk,ok.exf,ok.bs,ok.bsz,ok.noex,ok.exfs,ok.funs,ok.frf⟩
section
variable {X:Cx}{B:PN}{G:St}{H:Hp}{s:Shared}{E:VP}
theorem Inv.wish (I:Inv X B G H s) (E:VP):Inv (X.wish E) B G H s:=⟨I.ok.wish E,I.os,I.bare,I.base,I.loc,I.cell,I.free,I.freeC,I.pin,I.hok,I.len⟩
theorem Inv.unwish (I:Inv (X.wish E) B G H s):Inv X B G H s:=⟨I.ok.unwish,I.os,I.bare,I.base,I.loc,I.cell,I.free,I.freeC,I.pin,I.hok,I.len⟩
theorem SP.unwish (h:SP (X.wish E) B D f z):SP X B D f z:=by
 cases f with
 | next=>obtain⟨x,H',I,q⟩:=h;exact⟨x,H',I.unwish,q⟩
 | brk=>obtain⟨x,H',I,q⟩:=h;exact⟨x,H',I.unwish,q⟩
 | cont=>obtain⟨x,H',I,q⟩:=h;exact⟨x,H',I.unwish,q⟩
 | ret u=>obtain⟨v,x,H',I,r,q⟩:=h;exact⟨v,x,H',I.unwish,r,q⟩
theorem mw.nox {st:List Stmt}{t:TS} (h:mw X.nox st t):mw X st t:=fun B s G H D I hw=>
 wpAny_mono (h B s G H D (I.wish _) hw) (fun _ _ q=>q.unwish) fun _ _ z=>False.elim z
end
section
variable {X:Cx}{st:Stmt}{cj:List Stmt}{t u:TS}{e:Expr}{te:TE}{O:Pos}
noncomputable def Ft:TS:=fun D G H=>D.nx G H
noncomputable def Jb (t u:TS):TS:=fun D G H=>t { D with nx:=u D } G H
theorem AO:mw X [] Ft:=fun _ _ G H _ I h=>wpAny_execs_nil ⟨G,H,I,h⟩
theorem yn (J:PS X st t) (h2:mw X cj u):mw X (st::cj) (Jb t u):=by
 intro B s G H D I h;refine wpAny_execs_cons (cC (J B s G H { D with nx:=u D } I h) fun f e q=>?_);cases f with
 | next=>obtain⟨x,H',a,q⟩:=q;exact h2 B e x H' D a q
 | ret v=>exact q
 | brk=>exact q
 | cont=>exact q
theorem AN (J:PS X st t):mw X [st] t:=by
 intro B s G H D I h;refine wpAny_execs_cons (cC (J B s G H D I h) fun f x q=>?_);cases f with
 | next=>exact wpAny_execs_nil q
 | ret v=>exact q
 | brk=>exact q
 | cont=>exact q
noncomputable def CT:TS:=fun D G H=>D.bk G H
noncomputable def Fw:TS:=fun D G H=>D.ct G H
theorem yo:PS X (.Break O) CT:=fun _ _ G H _ I h=>wpAny_Break ⟨G,H,I,h⟩
theorem sv:PS X (.Continue O) Fw:=fun _ _ G H _ I h=>wpAny_Continue ⟨G,H,I,h⟩
theorem Inv.quiet (I:Inv X B G H s):interactive X.env=false:=by simp [interactive,I.ok.kind]
noncomputable def Fv (te:TE):TS:=fun D G H=>te G H fun _ U=>D.nx G U
theorem AQ (n:PE X e te) (k:swapsWith e none O.line X.env=pure false:=by rfl):PS X (.Expr e O) (Fv te):=by intro B s G H D I h;exact wpAny_Expr_any (cC (n B s G H _ I h) fun v f z=>by obtain⟨x,U,a,r,q⟩:=z;exact⟨G,U,a,q⟩) I.quiet k
noncomputable def Jc (te:TE):TS:=fun D G H=>te G H D.rt
theorem C7 (n:PE X e te):PS X (.Return (some e) O) (Jc te):=by intro B s G H D I h;exact wpAny_Return_some (cC (n B s G H _ I h) fun v k z=>by obtain⟨x,U,a,r,q⟩:=z;exact⟨x,G,U,a,r,q⟩)
noncomputable def Jg (c:TT) (t u:TS):TS:=fun D G H=>c G H fun b U=>if b=true then t D G U else u D G U
theorem FQ {c:Expr}{a b:List Stmt}{tc:TT} (f:PT X c tc) (n:mw X a t) (k:mw X b u):PS X (.If c a b O) (Jg tc t u):=by
 intro B s G H D I h;refine wpAny_If (cC (f B s G H _ I h) fun d e z=>?_);obtain⟨U,x,q⟩:=z;cases d with
 | true=>exact n B e G U D x q
 | false=>exact k B e G U D x q
noncomputable def CN:TS:=fun _ _ _=>False
theorem wS:mw X N CN:=fun _ _ _ _ _ _ h=>h.elim
end
noncomputable abbrev TG:=V->St->Hp->(St->Hp->Prop)->Prop
noncomputable abbrev En:=List V->St->Hp->(St->Hp->Prop)->Prop
noncomputable def PG (X:Cx) (a:Expr) (t:TG):Prop:=
 ∀(B:PN) (s:Shared) (G:St) (H:Hp) (v:V) (u:Value) (Q:St->Hp->Prop),Inv X B G H s->RelV v u->t v G H Q ->
  wpAny (model X.prog X.w) X.A (assign a X.env u) (fun _ z=>∃h H',Inv X B h H' z/\Q h H') X.xe s
noncomputable def Hm (X:Cx) (x:Ab) (t:En):Prop:=
 ∀(B:PN) (s:Shared) (G:St) (H:Hp) (v:List V) (Y:LV) (Q:St->Hp->Prop),Inv X B G H s->aI v Y->t v G H Q ->
  wpAny (model X.prog X.w) X.A (assignInOrder ((assignEach x X.env).map (·.2)) Y) (fun _ z=>∃h H',Inv X B h H' z/\Q h H') X.xe s
noncomputable abbrev Em:=V->V->V->Hp->(Hp->Prop)->Prop
noncomputable def Hk (X:Cx) (t:Em):Prop:=
 ∀(B:PN) (s:Shared) (G:St) (H:Hp) (o i v:V) (x h u:Value) (Q:Hp->Prop),Inv X B G H s->RelV o x->RelV i h->RelV v u->t o i v H Q ->
  wpAny (model X.prog X.w) X.A (setItem x h u) (fun _ z=>∃H',Inv X B G H' z/\Q H') X.xe s
noncomputable abbrev LK:=V->V->Hp->VK->Prop
section
variable {X:Cx}{O:Pos}
noncomputable def Cb (i:Nat):TG:=fun v G H Q=>Q (G.set i (some v)) H
theorem AY (N:X.N.Nodup) (q:X.N[i]? = some x) (e:Loc X.env.scope x) (f:X.fn x=true\/X.env.scope.names.lookup x=some .local:=by first | exact .inl rfl | exact .inr rfl | assumption):PG X (.Name x O) (Cb i):=by intro B s G H v u Q I r h;exact wpAny_assign_Name (si I N q e r (fun z a=>⟨_,H,a,h⟩) f)
noncomputable def JQ:En:=fun v G H Q=>v=[]/\Q G H
noncomputable def GU (t:TG) (u:En):En:=fun s G H Q=>∃v r,s=v::r/\t v G H fun h H'=>u r h H' Q
theorem AX:Hm X [] JQ:=by intro B s G H v Y Q I r h;obtain⟨e,h⟩:=h;subst e;cases r;exact assignInOrder_nil ⟨G,H,I,h⟩
theorem yv {e:Expr}{es:Ab}{t:TG}{u:En} (J:PG X e t) (h2:Hm X es u)
  (k:(assignEach (e::es) X.env).map (·.2)=assign e X.env::(assignEach es X.env).map (·.2):=by rfl):Hm X (e::es) (GU t u):=by
 intro B s G H m Y Q I r h;obtain⟨v,c,n,h⟩:=h;subst n;cases r with
 | cons r f=>rw [k];refine assignInOrder_cons (cC (J B s G H _ _ _ I r h) fun _ b z=>?_);obtain⟨x,U,a,q⟩:=z;exact h2 B b x U _ _ Q a f q
noncomputable def JO (K:FG) (n:Nat) (t:En):TG:=fun v G H Q=>∃a xs,v=.ref a/\mP K H a xs/\xs.length=n/\t xs G H Q
theorem Dd (p:X.calm=true) (h:Hm X es t)
  (q:(assignEach es X.env).length=n:=by rfl) (x:(assignEach es X.env).findIdx? (·.1)=none:=by rfl):PG X (.Tuple es k O) (JO X.K n t):=by
 intro B s G H v u Q I r hw;obtain⟨a,xs,m,d,l,hw⟩:=hw;subst m;cases r;obtain⟨i,f,w,z⟩:=I.tuple d;refine assign_Tuple_tuple (I.ok.hd p) w (by simp [q,<- l,f.length]) x fun h' g=>?_
 have c:Inv X B G H { s with heap:=h' }:=I.kept (t':=s.toks) fun b o e=>g b o (bX (Heap.lt_size e)) e;exact h B _ G H xs _ Q c (by simpa using f) hw
noncomputable def JP (to x:TE) (t:Em):TG:=fun v G H Q=>to G H fun o U=>x G U fun i H2=>t o i v H2 fun h=>Q G h
theorem De {o i:Expr}{to a:TE}{t:Em} (c:PE X o to) (q:PE X i a) (m:Hk X t)
  (b:∀v,assign (.Subscript o i O) X.env v=(do
   let N <- holding [v] (eval o X.env)
   let iv <- holding [v,N] (eval i X.env)
   standAt O
   holding [v,N,iv] (setItem N iv v)
   release [v,N,iv] []):=by intro _;rfl):PG X (.Subscript o i O) (JP to a t):=by
 intro B s G H v u Q I r h;rw [b];refine wpAny_bind (wpAny_holding (cC (c B s G H _ I h) fun N l z=>?_));obtain⟨x,U,n,g,p⟩:=z;refine wpAny_bind (wpAny_holding (cC (q B l G U _ n p) fun iv S z=>?_));obtain⟨y,H2,k,j,d⟩:=z;refine wpAny_bind (wpAny_standAt (wpAny_bind (wpAny_holding (cC (m B S G H2 x y v N iv u _ k g j r d) fun _ F z=>?_))));obtain⟨e,f,w⟩:=z;exact wpAny_release ⟨G,e,f,w⟩
noncomputable def Fz (te:TE) (g:TG):TS:=fun D G H=>te G H fun x U=>g x G U D.nx
theorem yp {tg e:Expr}{te:TE}{g:TG} (n:PE X e te) (k:PG X tg g) (f:swapsWithSole [tg] e O.line X.env=pure false:=by rfl) (hw:swappedStores [tg] e X.env=pure none:=by rfl)
  (J:(assignEach [tg] X.env).map (·.2)=[assign tg X.env]:=by rfl):PS X (.Assign [tg] e O) (Fz te g):=by
 intro B s G H D I h;refine wpAny_Assign_stores (cC (n B s G H _ I h) fun v c z=>?_) f hw;obtain⟨x,U,a,r,b⟩:=z;rw [J];exact cC (k B c G U x v _ a r b) fun _ m q=>q
theorem C6 (N:X.N.Nodup) (q:X.N[i]? = some x) (c:Loc X.env.scope x) (k:PE X e te) (b:swapsWith e (some (.Name x pos')) O.line X.env=pure false:=by rfl) (f:X.fn x=true\/X.env.scope.names.lookup x=some .local:=by first | exact .inl rfl | exact .inr rfl | assumption) :
  PS X (.Assign [.Name x pos'] e O) (Fz te (Cb i)):=by
 intro B s G H D I h;refine wpAny_Assign_Name (cC (k B s G H _ I h) fun v t z=>?_) b;obtain⟨y,U,a,r,m⟩:=z;exact si a N q c r (fun p n=>⟨_,U,n,m⟩) f
end
structure It where
 go:Nat->Hp->Prop
 yld:Nat->Hp->V->Hp->Prop
 stop:Nat->Hp->Prop
noncomputable def rT (X:Cx) (B:PN) (H:Hp) (b:Addr):Prop:=
 H b=none/\b≠X.env.locals/\b ∉ X.fs/\(b ∈ X.ex\/X.s₀.heap.objs.size≤b)/\(∀x c,X.env.cells.lookup x=some c->c≠b)/\∀p ∈ X.pn++B,p.1≠b
variable {B:PN}{G:St}
theorem Inv.fpOk (I:Inv X B G H s) (h:s.heap.objs.size≤b) (n:H' b=none):rT X B H' b:=by
 refine⟨n,cD (cg I.lt h),I.nofs h,.inr (aQ I.sz h),fun x c e z=>?_,fun p a z=>?_⟩
 .obtain⟨v,q⟩:=I.cell x c e;exact absurd (cg q.lt (by rw [z];exact h)) (iW _)
 .exact absurd (cg (Heap.lt_size (I.pin p a).1) (by rw [z];exact h)) (iW _)
structure Turn (P:Program) (w:World) (K:FG) (tg:Expr) (J:It) (fp:List Addr) (it:Addr) (tn:Nat->Heap->Prop):Prop where
 mem:it ∈ fp
 obj:∀i h,tn i h->∀b ∈ fp,∃o,h.get? b=some o/\∀v,o.data≠.cell v
 keep:∀i h h',tn i h->(∀b ∈ fp,∀o,h.get? b=some o->h'.get? b=some o)->tn i h'
 item:∀(X:Cx),X.prog=P->X.w=w->X.K=K->X.calm=true->∀(i:Nat) (pins:PN) (s:Shared) (σ:St) (H:Hp) (E:VP),Inv X pins σ H s->(∀b ∈ fp,rT X pins H b)->tn i s.heap->J.go i H ->
  wpAny (model P w) X.A (pyNext (.ref it)) (fun r s1=>∃u,r=some u /\
   wpAny (model P w) X.A (letOwnedTupleGo tg (.ref it) u) (fun _ s2=>∃x H',Inv X pins σ H' s2/\RelV x u/\J.yld i H x H'/\tn (i+1) s2.heap/\∀b ∈ fp,H' b=none) E s1) E s
 done:∀(X:Cx),X.prog=P->X.w=w->X.K=K->X.calm=true->∀(i:Nat) (pins:PN) (s:Shared) (σ:St) (H:Hp) (E:VP),Inv X pins σ H s->(∀b ∈ fp,rT X pins H b)->tn i s.heap->J.stop i H ->
  wpAny (model P w) X.A (pyNext (.ref it)) (fun r s1=>r=none/\Inv X pins σ H s1) E s
 self:∀(A:Around) (i:Nat) (s:Shared) (Q:VP) (E:VP),tn i s.heap->Q (.ref it) s->wpAny (model P w) A (pyIter (.ref it)) Q E s
noncomputable abbrev TI:=St->Hp->(It->Hp->Prop)->Prop
noncomputable def Im (X:Cx) (B:PN) (G:St) (tg:Expr) (R:It->Hp->Prop) (i:Value) (s:Shared):Prop:=
 ∃(t:Addr) (f:List Addr) (n:Nat->Heap->Prop) (J:It) (H':Hp),i=.ref t/\Inv X B G H' s/\Turn X.prog X.w X.K tg J f t n/\n 0 s.heap/\(∀b ∈ f,rT X B H' b)/\R J H'
noncomputable def PI (X:Cx) (tg iter:Expr) (w:TI):Prop:=
 ∀(B:PN) (s:Shared) (G:St) (H:Hp) (R:It->Hp->Prop),Inv X B G H s->w G H R ->
  wpAny (model X.prog X.w) X.A (eval iter X.env) (fun v h=>wpAny (model X.prog X.w) X.A (pyIter v) (Im X B G tg R) X.xe h) X.xe s
variable {tg:Expr}
theorem v_ (e:s.heap.get? N=some o) (c:o.cls=.type n) (hd:o.data=.fields vs)
    (a:["enumerate","zip","dict_itemiterator","dict_reverseitemiterator","odict_iterator","itertools.zip_longest","itertools.pairwise"].contains n=false) (x:Q () s):wpAny M A (letOwnedTupleGo tg (.ref N) u) Q E s:=by
  unfold letOwnedTupleGo;cases tg <;> first
    | exact wpAny_pure x
    | (cases u <;> first
        | exact wpAny_pure x
        | (refine wpAny_bind (wpAny_load e ?_)
           rw [c,hd];show wpAny M A (if (["enumerate","zip","dict_itemiterator","dict_reverseitemiterator","odict_iterator","itertools.zip_longest","itertools.pairwise"].contains n && vs[0]? == some (rawInt _))=true then _ else _) Q E s;rw [if_neg (by intro h;rw [a,Bool.false_and] at h;cases h)];exact wpAny_pure x))
noncomputable def Ip (K:FG) (a:Addr):It:=
 ⟨fun i H=>∃xs x,gL K H a xs/\xs[i]? = some x,fun i H x H'=>H'=H/\∀xs,gL K H a xs->xs[i]? = some x,fun i H=>∃xs,gL K H a xs/\xs.length≤i⟩
noncomputable def KD (K:FG) (a:Addr):It:=
 ⟨fun i H=>∃xs x,mP K H a xs/\xs[i]? = some x,fun i H x H'=>H'=H/\∀xs,mP K H a xs->xs[i]? = some x,fun i H=>∃xs,mP K H a xs/\xs.length≤i⟩
noncomputable def Ho (I:Int) (n:Nat):It:=⟨fun i _=>i < n,fun i H x H'=>H'=H/\x=.int (I+i),fun i _=>n≤i⟩
variable {w:World}{K:FG}
theorem wG (a t:Addr):Turn P w K tg (Ip K a) [t] t (fun i h=>h.IsListIter t a i) where
 mem:=by simp
 obj:=fun i h st b n=>by
  have e:b=t:=by simpa using n
  subst e;obtain⟨o,e,c,d⟩:=st;exact⟨o,e,fun v z=>by rw [d] at z;cases z⟩
 keep:=fun i h h' st k=>st.at fun o e=>k t (by simp) o e
 item:=by
  intro X F hw S L i B s G H E I m st A;subst F hw S;obtain⟨xs,x,q,C⟩:=A;obtain⟨D,J,p,T⟩:=I.list q;obtain⟨u,Q,U⟩:=J.get C;obtain⟨r,g,O,j,l,y⟩:=m t (by simp);refine wpAny_pyNext_list_item st p.isList (x:=u) (by simpa using Q) fun h' f V=>?_
  have M:Inv X B G H { s with heap:=h' }:=I.turned (t':=s.toks) (fun b o n e=>(V.2 b n).trans e) r g j l y;obtain⟨o,e,c,d⟩:=id f;exact⟨u,rfl,v_ (s:={ s with heap:=h' }) e c d (by decide) ⟨x,H,M,U,⟨rfl,fun ys R=>by rw [I.list_inj R q];exact C⟩,f,fun b n=>(m b n).1⟩⟩
 done:=by intro X F hw S L i B s G H E I m st A;subst F hw S;obtain⟨xs,q,C⟩:=A;obtain⟨D,J,p,T⟩:=I.list q;obtain⟨r,g,O,j,l,y⟩:=m t (by simp);have W:=J.length;exact wpAny_pyNext_list_end (I.ok.hd L) st p.isList (by simp;lia) fun h' N=>⟨rfl,I.turned (t':=s.toks) (fun b o n e=>N b o n e) r g j l y⟩
 self:=fun _ _ _ _ _ st h=>wpAny_pyIter_listiter st h
theorem uo (a t:Addr):Turn P w K tg (KD K a) [t] t (fun i h=>h.IsTupleIter t a i) where
 mem:=by simp
 obj:=fun i h st b n=>by
  have e:b=t:=by simpa using n
  subst e;obtain⟨o,e,c,d⟩:=st;exact⟨o,e,fun v z=>by rw [d] at z;cases z⟩
 keep:=fun i h h' st k=>st.at fun o e=>k t (by simp) o e
 item:=by
  intro X A hw F L i B s G H E I r st C;subst A hw F;obtain⟨xs,x,q,D⟩:=C;obtain⟨f,J,p,T⟩:=I.tuple q;obtain⟨u,Q,U⟩:=J.get D;obtain⟨g,j,O,l,y,S⟩:=r t (by simp);refine wpAny_pyNext_tuple_item st (show s.heap.IsTuple a f.toArray from p) (x:=u) (by simpa using Q) fun h' m V=>?_
  have M:Inv X B G H { s with heap:=h' }:=I.turned (t':=s.toks) (fun b o n e=>(V.2 b n).trans e) g j l y S;obtain⟨o,e,c,d⟩:=id m;exact⟨u,rfl,v_ (s:={ s with heap:=h' }) e c d (by decide) ⟨x,H,M,U,⟨rfl,fun ys R=>by rw [I.tuple_inj R q];exact D⟩,m,fun b n=>(r b n).1⟩⟩
 done:=by intro X A hw F L i B s G H E I r st C;subst A hw F;obtain⟨xs,q,D⟩:=C;obtain⟨f,J,p,T⟩:=I.tuple q;obtain⟨g,j,O,l,y,S⟩:=r t (by simp);have W:=J.length;exact wpAny_pyNext_tuple_end (I.ok.hd L) st (show s.heap.IsTuple a f.toArray from p) (by simp;lia) fun h' N=>⟨rfl,I.turned (t':=s.toks) (fun b o n e=>N b o n e) g j l y S⟩
 self:=fun _ _ _ _ _ st h=>wpAny_pyIter_tupleiter st h
theorem uq (a:Addr) (I:Int) (n:Nat):Turn P w K tg (Ho I n) [a] a (fun i h=>IsRangeIter h a (I+(i:Nat) * 1) ((n:Int)-(i:Nat)) 1) where
 mem:=by simp
 obj:=fun i h st b f=>by
  have e:b=a:=by simpa using f
  subst e;exact⟨_,st,fun v z=>by have J:Data.fields _=Data.cell v:=z;cases J⟩
 keep:=fun i h h' st k=>k a (by simp) _ st
 item:=by
  intro X j hw g l i B s G H E x m st y;subst j hw g;obtain⟨r,p,A,q,d,u⟩:=m a (by simp);have W:=Walks.range (prog:=X.prog) (w:=X.w) (x.ok.hd l) a I 1 n;refine W.item i s _ _ y st fun v h' tk C c D=>?_
  obtain⟨t,rfl⟩:=C;have S:Inv X B G H { s with heap:=h',toks:=tk }:=x.turned (fun b o f e=>D b o (by simpa using f) e) r p q d u;refine⟨_,rfl,v_ (s:={ s with heap:=h',toks:=tk }) (n:="range_iterator") c rfl rfl (by decide) ⟨.int (I+i),H,S,⟨t,?_⟩,⟨rfl,rfl⟩,c,fun b f=>(m b f).1⟩⟩;rw [Int.mul_one]
 done:=by intro X j hw g l i B s G H E x m st y;subst j hw g;obtain⟨r,p,A,q,d,u⟩:=m a (by simp);exact wpAny_pyNext_range_end (x.ok.hd l) st (by have:n≤i:=y;lia) fun h' F=>⟨rfl,x.turned (t':=s.toks) (fun b o f e=>F b o f e) r p q d u⟩
 self:=fun _ _ _ _ _ st h=>wpAny_pyIter_rangeiter st h
section
variable {X:Cx}{tg:Expr}
theorem su {I q:Int}{t u v:Tok}{tk:Nat} (h:Inv X B G H s) (J:-(2 ^ 62)≤I) (h2:I < 2 ^ 62) (f:-(2 ^ 62)≤q) (c:q < 2 ^ 62)
  (x:R (Ho I (q-I).toNat) H):wpAny (model X.prog X.w) X.A (pyIter (.ref s.heap.objs.size)) (Im X B G tg R) E { s with heap:=s.heap.push { cls:=.type "range",data:=.fields #[.int I t,.int q u,.int 1 v] },toks:=tk }:=by
 refine wpAny_pyIter_range (IsRange.new ..) (small_one J h2 f c) ?_;have a:Inv X B G H { s with heap:=s.heap.push { cls:=.type "range",data:=.fields #[.int I t,.int q u,.int 1 v] },toks:=tk }:=h.kept fun b o e=>Heap.get?_push_of_some _ e;refine⟨(s.heap.push { cls:=.type "range",data:=.fields #[.int I t,.int q u,.int 1 v] }).objs.size,[(s.heap.push { cls:=.type "range",data:=.fields #[.int I t,.int q u,.int 1 v] }).objs.size],_,_,H,rfl,
  a.kept (t':=tk) fun b o e=>Heap.get?_push_of_some _ e,uq _ I (q-I).toNat,?_,fun b m=>?_,x⟩
 .have n:I+((0:Nat):Int) * 1=I:=by simp
  have k:(((q-I).toNat:Nat):Int)-((0:Nat):Int)=Builtin.Range.rangeSize I q 1:=by rw [rangeSize_one];split <;> lia
  show IsRangeIter _ _ (I+((0:Nat):Int) * 1) ((((q-I).toNat:Nat):Int)-((0:Nat):Int)) 1;rw [n,k];exact Heap.get?_push_size _ rfl
 .have e:b=(s.heap.push { cls:=.type "range",data:=.fields #[.int I t,.int q u,.int 1 v] }).objs.size:=by simpa using m
  subst e;exact a.fpOk (Nat.le_refl _) (a.hok.fresh (Nat.le_refl _))
noncomputable def GI (ta:TA):TI:=fun G H R=>ta G H fun v U=>∃j:Int,v=[.int j]/\-(2 ^ 62)≤j/\j < 2 ^ 62/\R (Ho 0 j.toNat) U
noncomputable def GH (ta:TA):TI:=fun G H R=>ta G H fun v U=>∃i j:Int,v=[.int i,.int j]/\(-(2 ^ 62)≤i/\i < 2 ^ 62/\-(2 ^ 62)≤j/\j < 2 ^ 62)/\R (Ho i (j-i).toNat) U
theorem wW {a:Expr}{ta:TA}{p O:Pos} (g:Gl X "range") (m:X.mg "range"=none) (k:PA X [a] ta) (f:starEach [a] X.env=[(false,eval a X.env)]:=by rfl):PI X tg (.Call (.Name "range" p) [a] [] O) (GI ta):=by
 intro B s G H R I h;refine Call_ (i9 I g m boot_range (lb (cC (k O B s G H _ I h) fun Y d z=>?_) f rfl));obtain⟨w,U,n,c,x⟩:=z;obtain⟨j,e,x,b,q⟩:=x;subst e;cases c with
 | cons r v=>cases v;obtain⟨t,rfl⟩:=r;exact call_range_1 (su n (by lia) (by lia) x b (by simpa using q))
theorem wV {a b:Expr}{ta:TA}{p O:Pos} (g:Gl X "range") (m:X.mg "range"=none) (c:PA X [a,b] ta) (v:starEach [a,b] X.env=[(false,eval a X.env),(false,eval b X.env)]:=by rfl) (x:starEach [b] X.env=[(false,eval b X.env)]:=by rfl) :
  PI X tg (.Call (.Name "range" p) [a,b] [] O) (GH ta):=by
 intro B s G H R I h;refine Call_ (i9 I g m boot_range (lb (cC (c O B s G H _ I h) fun Y o z=>?_) (by rw [v,x]) (by rw [x];rfl)));obtain⟨F,U,f,y,n⟩:=z;obtain⟨i,j,e,⟨n,d,w,u⟩,q⟩:=n;subst e;cases y with
 | cons r k=>
  cases k with
  | cons l k=>cases k;obtain⟨t,rfl⟩:=r;obtain⟨S,rfl⟩:=l;exact call_range_2 (su f n d w u q)
noncomputable def Jh (w:TI) (g:TG) (tb:TS):TS:=fun D G H=>w G H fun J U=>∃W:Nat->Nat->St->Hp->Prop,(∃m,W 0 m G U)/\∀i m G H,W i m G H ->
 (J.stop i H/\D.nx G H)\/(J.go i H/\∃N:St->Hp->Prop,(∀h H',N h H'->∃e,e < m/\W (i+1) e h H')/\∀x H',J.yld i H x H'->g x G H' fun a H2=>tb { D with nx:=N,ct:=N,bk:=D.nx } a H2)
noncomputable def ll (f:List Addr) (h:Heap):PN:=f.filterMap fun b=>(h.get? b).map fun o=>(b,o)
theorem iw (x:b ∈ N) (e:h.get? b=some o):(b,o) ∈ ll N h:=mV.mpr ⟨b,x,by rw [e];rfl⟩
theorem wZ (s:p ∈ ll N h):p.1 ∈ N/\h.get? p.1=some p.2:=by
 obtain⟨b,a,e⟩:=mV.mp s;cases q:h.get? b with
 | none=>rw [q] at e;cases e
 | some o=>rw [q] at e;have x:(b,o)=p:=Option.some.inj e;subst x;exact⟨a,q⟩
theorem Inv.pinned (I:Inv X B G H s) (k:∀b ∈ N,rT X B H b) (c:∀b ∈ N,∃o,s.heap.get? b=some o/\∀v,o.data≠.cell v):Inv X (B++ll N s.heap) G H s:=
 I.pins_of fun p m=>(dh.mp m).elim (fun z=>I.pin p (fP _ z)) fun z=>by obtain⟨x,e⟩:=wZ z;obtain⟨f,a,n,_⟩:=k p.1 x;obtain⟨o,h,d⟩:=c p.1 x;rw [e] at h;cases h;exact⟨e,f,a,n,d⟩
theorem Inv.unpinned (I:Inv X (B++N) G H s):Inv X B G H s:=I.pins_of fun p h=>I.pin p (fP _ (k_ _ h))
theorem C8 {iter:Expr}{y:List Stmt}{wi:TI}{g:TG}{tb:TS}{O:Pos} (A:PassesOwn (model X.prog X.w) X.A X.env X.xe) (hc:X.calm=true) (q:PI X tg iter wi) (hg:PG X tg g) (p:mw X y tb)
  (hs:∀x,foldedSetIterable iter X.env x=pure x:=by intro _;rfl):PS X (.For tg iter y [] O) (Jh wi g tb):=by
 intro B s G H D I h;refine wpAny_For (cC (q B s G H _ I h) fun v s1 J=>cC J fun itv s2 h2=>?_) hs;obtain⟨it,K,tn,a,H2,e,I2,T,Y,f2,W,⟨m0,w0⟩,L⟩:=h2;subst e;have w:∀{H':Hp},(∀b ∈ K,H' b=none)->∀b ∈ K,rT X B H' b:=fun hn b p=>⟨hn b p,(f2 b p).2⟩
 refine codeAny_forLoop_any (fun n z=>∃i j H',Inv X B j H' z/\tn i z.heap/\(∀b ∈ K,H' b=none)/\W i n j H') ?_ m0 ⟨0,G,H2,I2,Y,fun b p=>(f2 b p).1,w0⟩;rintro n s3 ⟨i,l,M,I3,oh,P,w3⟩;rcases L i n l M w3 with ⟨E,qn⟩ | ⟨go,N,hN,step⟩
 .refine mR A (cC (T.done X rfl rfl rfl hc i B s3 l M X.xe I3 (w P) oh E) fun r s4 F=>?_);obtain⟨U,I4⟩:=F;subst U;exact wpAny_execs_nil ⟨l,M,I4,qn⟩
 .refine mR A (cC (T.item X rfl rfl rfl hc i B s3 l M X.xe I3 (w P) oh go) fun r s4 F=>?_);obtain⟨u,U,h4⟩:=F;subst U;refine mR A (cC h4 fun _ s5 F=>?_);obtain⟨x,H5,I5,r5,y5,FC,R⟩:=F;have Q:=I5.pinned (w R) (T.obj _ _ FC);refine mR A (cC (hg _ s5 l H5 x u _ Q r5 (step x H5 y5)) fun _ s6 F=>?_);obtain⟨Z,H6,I6,q6⟩:=F;refine mR A (cC (p _ s6 Z H6 _ I6 q6) fun f V S=>?_);have again:∀{k:St}{c:Hp},Inv X (B++ll K s5.heap) k c V->N k c->∃m,m < n/\∃i j H',Inv X B j H' V/\tn i V.heap/\(∀b ∈ K,H' b=none)/\W i m j H':=fun {k c} t C=>by
   obtain⟨m',hm,w7⟩:=hN k c C;refine⟨m',hm,i+1,k,c,t.unpinned,T.keep _ _ _ FC fun b p o e=>(t.pin (b,o) (fP _ (fP _ (iw p e)))).1,fun b p=>?_,w7⟩;obtain⟨o,e,d⟩:=T.obj _ _ FC b p;exact (t.pin (b,o) (fP _ (fP _ (iw p e)))).2.1
  cases f with
  | next=>obtain⟨k,c,t,C⟩:=S;exact again t C
  | cont=>obtain⟨k,c,t,C⟩:=S;exact again t C
  | brk=>obtain⟨k,c,t,S⟩:=S;exact⟨k,c,t.unpinned,S⟩
  | ret v=>obtain⟨x7,k,c,t,r7,S⟩:=S;exact⟨x7,k,c,t.unpinned,r7,S⟩
end
noncomputable abbrev R2:=V->V->Hp->VK->Prop
noncomputable def g9 (X:Cx) (f:Value->Value->Sem Value) (r:R2):Prop:=
 ∀(B:PN) (s:Shared) (G:St) (H:Hp) (x y:V) (v u:Value) (Q:VK),Inv X B G H s->RelV x v->RelV y u->r x y H Q ->
  wpAny (model X.prog X.w) X.A (f v u) (EP X B G Q) X.xe s
noncomputable def J0 (X:Cx) (f:Value->Sem Value) (r:V->Hp->VK->Prop):Prop:=
 ∀(B:PN) (s:Shared) (G:St) (H:Hp) (x:V) (v:Value) (Q:VK),Inv X B G H s->RelV x v->r x H Q ->
  wpAny (model X.prog X.w) X.A (f v) (EP X B G Q) X.xe s
noncomputable def cJ (X:Cx) (f:Value) (r:List V->Hp->VK->Prop):Prop:=
 ∀(B:PN) (s:Shared) (G:St) (H:Hp) (xs:List V) (Y:LV) (Q:VK),Inv X B G H s->aI xs Y->r xs H Q ->
  wpAny (model X.prog X.w) X.A (call f Y) (EP X B G Q) X.xe s
noncomputable def J1 (X:Cx) (r:V->Hp->(Bool->Hp->Prop)->Prop):Prop:=
 ∀(B:PN) (s:Shared) (G:St) (H:Hp) (x:V) (v:Value) (Q:Bool->Hp->Prop),Inv X B G H s->RelV x v->r x H Q ->
  wpAny (model X.prog X.w) X.A (truthy v) (TP X B G Q) X.xe s
noncomputable def CM (r:R2) (ta tb:TE):TE:=fun G H Q=>ta G H fun x U=>tb G U fun y H2=>r x y H2 Q
noncomputable def KR (r:V->Hp->VK->Prop) (ta:TE):TE:=fun G H Q=>ta G H fun x U=>r x U Q
noncomputable def rI (C:Int->Int->Prop) (g:Int->Int->V):R2:=fun x y H Q=>∃i j,x=.int i/\y=.int j/\C i j/\Q (g i j) H
noncomputable def AJ (g:Int->Int->V):R2:=fun x y H Q=>∃i j,x=.int i/\y=.int j/\Q (g i j) H
noncomputable def rU (g:Int->V):V->Hp->VK->Prop:=fun x H Q=>∃i,x=.int i/\Q (g i) H
section
variable {X:Cx}{a b c:Expr}{ta tb tc:TE}{O:Pos}
theorem Eh (r:PE X a ta) (t:PE X b tb) {B:PN}{s:Shared}{G:St}{H:Hp}{R:V->V->Hp->Prop} (I:Inv X B G H s)
  (h:ta G H fun x U=>tb G U fun y H2=>R x y H2) {Q:VP}{f:Value->Value->Sem Value}
  (p:∀v u k x y H2,Inv X B G H2 k->RelV x v->RelV y u->R x y H2->wpAny (model X.prog X.w) X.A (f v u) Q X.xe k) :
  wpAny (model X.prog X.w) X.A (eval a X.env) (fun v e=>wpAny (model X.prog X.w) X.A (eval b X.env) (fun u n=>wpAny (model X.prog X.w) X.A (f v u) Q X.xe n) X.xe e) X.xe s:=by
 refine cC (r B s G H _ I h) fun v i z=>?_;obtain⟨x,U,c,w,q⟩:=z;refine cC (t B i G U _ c q) fun u k z=>?_;obtain⟨y,H2,m,g,d⟩:=z;exact p v u k x y H2 m w g d
theorem FT {o:Operator}{r:R2} (f:g9 X (binaryOp o) r) (n:PE X a ta) (k:PE X b tb):PE X (.BinOp a o b O) (CM r ta tb):=by intro B s G H Q I h;exact wpAny_BinOp (Eh n k I h fun v u t x y H2 e c m q=>f B t G H2 x y v u Q e c m q)
theorem FR (o:J0 X (unaryOp N) r) (n:PE X a ta):PE X (.UnaryOp N a O) (KR r ta):=by intro B s G H Q I h;exact UnaryOp_ (cC (n B s G H _ I h) fun v f z=>by obtain⟨x,U,e,k,q⟩:=z;exact o B f G U x v Q e k q)
theorem HG {f:Value->Value->Sem Value}{C:Int->Int->Prop}{g:Int->Int->Int}
  (rule:∀(i j:Int) (t u:Tok) (s:Shared) (Q:VP) (E:VP),C i j->Q (.int (g i j) s.toks) { s with toks:=s.toks+1 }->wpAny (model X.prog X.w) X.A (f (.int i t) (.int j u)) Q E s) :
  g9 X f (rI C fun i j=>.int (g i j)):=by
 intro B s G H x y v u Q I r a h;obtain⟨i,j,rfl,rfl,c,q⟩:=h;obtain⟨t,rfl⟩:=r;obtain⟨e,rfl⟩:=a;exact rule i j t e s _ _ c ⟨.int (g i j),H,I.tok _,⟨_,rfl⟩,q⟩
theorem Ga {f:Value->Value->Sem Value}{g:Int->Int->Int}
  (rule:∀(i j:Int) (t u:Tok) (s:Shared) (Q:VP) (E:VP),Q (.int (g i j) s.toks) { s with toks:=s.toks+1 }->wpAny (model X.prog X.w) X.A (f (.int i t) (.int j u)) Q E s) :
  g9 X f (AJ fun i j=>.int (g i j)):=by
 intro B s G H x y v u Q I r a h;obtain⟨i,j,rfl,rfl,q⟩:=h;obtain⟨t,rfl⟩:=r;obtain⟨e,rfl⟩:=a;exact rule i j t e s _ _ ⟨.int (g i j),H,I.tok _,⟨_,rfl⟩,q⟩
theorem A7 {f:Value->Value->Sem Value}{g:Int->Int->Bool}
  (rule:∀(i j:Int) (t u:Tok) (s:Shared) (Q:VP) (E:VP),Q (.bool (g i j)) s->wpAny (model X.prog X.w) X.A (f (.int i t) (.int j u)) Q E s) :
  g9 X f (AJ fun i j=>.bl (g i j)):=by
 intro B s G H x y v u Q I r a h;obtain⟨i,j,rfl,rfl,q⟩:=h;obtain⟨t,rfl⟩:=r;obtain⟨e,rfl⟩:=a;exact rule i j t e s _ _ ⟨.bl (g i j),H,I,rfl,q⟩
noncomputable def J7 (i j:Int):Prop:=0≤j/\j≤1000000/\i.natAbs < 2 ^ 64
noncomputable def LC (i j:Int):Prop:=(-(2 ^ 64) < i/\i < 2 ^ 64)\/(-(2 ^ 64) < j/\j < 2 ^ 64)
theorem Dt:g9 X (binaryOp .Add) (AJ fun i j=>.int (i+j)):=Ga fun _ _ _ _ _ _ _ q=>add_int q
theorem Dn:g9 X (binaryOp .Sub) (AJ fun i j=>.int (i-j)):=Ga fun _ _ _ _ _ _ _ q=>sub_int q
theorem Dq:g9 X (binaryOp .Mod) (rI (fun _ j=>0 < j) fun i j=>.int (i % j)):=HG fun i j _ _ _ _ _ h q=>by have J:(0:Int) < j:=h;exact mod_int' (by lia) (by rw [Int.fmod_eq_emod_of_nonneg i (by lia)];exact q)
theorem Dp:g9 X (binaryOp .Pow) (rI J7 fun i j=>.int (i ^ j.toNat)):=HG fun _ _ _ _ _ _ _ h q=>pow_int_small h.1 h.2.1 h.2.2 q
theorem KQ {f:Value->Sem Value}{g:Int->Int}
  (rule:∀(i:Int) (t:Tok) (s:Shared) (Q:VP) (E:VP),Q (.int (g i) s.toks) { s with toks:=s.toks+1 }->wpAny (model X.prog X.w) X.A (f (.int i t)) Q E s) :
  J0 X f (rU fun i=>.int (g i)):=by
 intro B s G H x v Q I r h;obtain⟨i,rfl,q⟩:=h;obtain⟨t,rfl⟩:=r;exact rule i t s _ _ ⟨.int (g i),H,I.tok _,⟨_,rfl⟩,q⟩
theorem CF:J0 X (unaryOp .USub) (rU fun i=>.int (-i)):=KQ fun _ _ _ _ _ q=>neg_int q
end
noncomputable def FJ:V->V->Bool
 | .non,.non=>true | .non,.int _=>true | .int _,.non=>true | .non,.bl _=>true | .bl _,.non=>true | .non,.str _=>true | .str _,.non=>true
 | .int _,.int _=>true | .bl _,.bl _=>true | .str _,.str _=>true | .byt _,.byt _=>true
 | .int _,.str _=>true | .str _,.int _=>true | .bl _,.str _=>true | .str _,.bl _=>true
 | _,_=>false
noncomputable def K5:R2:=fun x y H Q=>FJ x y=true/\Q (.bl (decide (x=y))) H
noncomputable def K4:R2:=fun x y H Q=>FJ x y=true/\Q (.bl (!decide (x=y))) H
theorem wk {i j:Int}:decide (V.int i=V.int j)=(i == j):=by rw [pJ];simp
theorem zM:decide (V.bl i=V.bl N)=(i == N):=by rw [pJ];simp
theorem wj:decide (V.str i=V.str N)=(i == N):=by rw [pJ];simp
theorem wm:decide (V.byt i=V.byt N)=(i.toList == N.toList):=by rw [pJ];cases i;cases N;simp
section
variable {X:Cx}{a b c:Expr}{ta tb tc:TE}{O:Pos}
theorem ba (I:Inv X B G H s) (q:Q (.bl k) H) (e:k=N):EP X B G Q (.bool N) s:=by subst e;exact⟨.bl k,H,I,rfl,q⟩
theorem yK:g9 X (compareOp .Eq) K5:=by
 intro B s G H x y v u Q I n r h;obtain⟨e,q⟩:=h;cases x with
 | non=>
  cases n;cases y with
  | non=>cases r;exact PySem.EqNone.eq_none_none (ba I q (by simp))
  | bl j=>cases r;exact PySem.EqNone.eq_none_bool (ba I q (by simp))
  | int j=>obtain⟨a,rfl⟩:=r;exact PySem.EqNone.eq_none_int (ba I q (by simp))
  | str j=>obtain⟨a,rfl⟩:=r;exact PySem.EqNone.eq_none_str (ba I q (by simp))
  | _=>exact absurd (show false=true from e) bO
 | bl i=>
  cases n;cases y with
  | non=>cases r;exact PySem.EqNone.eq_bool_none (ba I q (by simp))
  | bl j=>cases r;exact eq_bool (ba I q zM)
  | str j=>obtain⟨a,rfl⟩:=r;exact PySem.EqMixed.eq_bool_str (ba I q (by simp))
  | _=>exact absurd (show false=true from e) bO
 | int i=>
  obtain⟨t,rfl⟩:=n;cases y with
  | non=>cases r;exact PySem.EqNone.eq_int_none (ba I q (by simp))
  | int j=>obtain⟨a,rfl⟩:=r;exact eq_int (ba I q wk)
  | str j=>obtain⟨a,rfl⟩:=r;exact PySem.EqMixed.eq_int_str (ba I q (by simp))
  | _=>exact absurd (show false=true from e) bO
 | str i=>
  obtain⟨t,rfl⟩:=n;cases y with
  | non=>cases r;exact PySem.EqNone.eq_str_none (ba I q (by simp))
  | bl j=>cases r;exact PySem.EqMixed.eq_str_bool (ba I q (by simp))
  | int j=>obtain⟨a,rfl⟩:=r;exact PySem.EqMixed.eq_str_int (ba I q (by simp))
  | str j=>obtain⟨a,rfl⟩:=r;exact eq_str (ba I q wj)
  | _=>exact absurd (show false=true from e) bO
 | byt i=>
  obtain⟨t,rfl⟩:=n;cases y with
  | byt j=>obtain⟨a,rfl⟩:=r;exact PySem.W.eq_bytes (ba I q wm)
  | _=>exact absurd (show false=true from e) bO
 | _=>cases y <;> exact absurd (show false=true from e) bO
theorem yI:g9 X (compareOp .NotEq) K4:=by
 intro B s G H x y v u Q I n r h;obtain⟨e,q⟩:=h;cases x with
 | non=>
  cases n;cases y with
  | non=>cases r;exact PySem.EqNone.ne_none_none (ba I q (by simp))
  | bl j=>cases r;exact PySem.EqNone.ne_none_bool (ba I q (by simp))
  | int j=>obtain⟨a,rfl⟩:=r;exact PySem.EqNone.ne_none_int (ba I q (by simp))
  | str j=>obtain⟨a,rfl⟩:=r;exact PySem.EqNone.ne_none_str (ba I q (by simp))
  | _=>exact absurd (show false=true from e) bO
 | bl i=>
  cases n;cases y with
  | non=>cases r;exact PySem.EqNone.ne_bool_none (ba I q (by simp))
  | bl j=>cases r;exact ne_bool (ba I q (congrArg not zM))
  | str j=>obtain⟨a,rfl⟩:=r;exact PySem.EqMixed.ne_bool_str (ba I q (by simp))
  | _=>exact absurd (show false=true from e) bO
 | int i=>
  obtain⟨t,rfl⟩:=n;cases y with
  | non=>cases r;exact PySem.EqNone.ne_int_none (ba I q (by simp))
  | int j=>obtain⟨a,rfl⟩:=r;exact ne_int (ba I q (congrArg not wk))
  | str j=>obtain⟨a,rfl⟩:=r;exact PySem.EqMixed.ne_int_str (ba I q (by simp))
  | _=>exact absurd (show false=true from e) bO
 | str i=>
  obtain⟨t,rfl⟩:=n;cases y with
  | non=>cases r;exact PySem.EqNone.ne_str_none (ba I q (by simp))
  | bl j=>cases r;exact PySem.EqMixed.ne_str_bool (ba I q (by simp))
  | int j=>obtain⟨a,rfl⟩:=r;exact PySem.EqMixed.ne_str_int (ba I q (by simp))
  | str j=>obtain⟨a,rfl⟩:=r;exact ne_str (ba I q (congrArg not wj))
  | _=>exact absurd (show false=true from e) bO
 | byt i=>
  obtain⟨t,rfl⟩:=n;cases y with
  | byt j=>obtain⟨a,rfl⟩:=r;exact PySem.W.ne_bytes (ba I q (congrArg not wm))
  | _=>exact absurd (show false=true from e) bO
 | _=>cases y <;> exact absurd (show false=true from e) bO
theorem FW:g9 X (compareOp .Lt) (AJ fun i j=>.bl (decide (i < j))):=A7 fun _ _ _ _ _ _ _ q=>lt_int q
theorem FX:g9 X (compareOp .LtE) (AJ fun i j=>.bl (decide (i≤j))):=A7 fun _ _ _ _ _ _ _ q=>le_int q
theorem FY:g9 X (compareOp .Gt) (AJ fun i j=>.bl (decide (j < i))):=A7 fun _ _ _ _ _ _ _ q=>gt_int q
theorem FZ:g9 X (compareOp .GtE) (AJ fun i j=>.bl (decide (j≤i))):=A7 fun _ _ _ _ _ _ _ q=>ge_int q
theorem wX:g9 X (compareOp .In) (fun x y H Q=>∃i j,x=.str i/\y=.str j/\Q (.bl (!(Builtin.Str.occurrences j i 0 j.length 1).isEmpty)) H):=by intro B s G H x y v u Q I r a h;obtain⟨i,j,rfl,rfl,q⟩:=h;obtain⟨t,rfl⟩:=r;obtain⟨e,rfl⟩:=a;exact in_str (ba I q rfl)
theorem Dr:g9 X (compareOp .Is) (fun x y H Q=>y=.non/\Q (.bl (decide (x=.non))) H):=by
 intro B s G H x y v u Q I r a h;obtain⟨rfl,q⟩:=h;cases a;refine is_none_gen (ba I q ?_);cases x <;> first
  | (cases r;rfl)
  | (obtain⟨t,rfl⟩:=r;rfl)
theorem A3:g9 X (compareOp .IsNot) (fun x y H Q=>y=.non/\Q (.bl (!decide (x=.non))) H):=by
 intro B s G H x y v u Q I r a h;obtain⟨rfl,q⟩:=h;cases a;refine isnot_none_gen (ba I q ?_);cases x <;> first
  | (cases r;rfl)
  | (obtain⟨t,rfl⟩:=r;rfl)
theorem qx:g9 X (compareOp .NotIn) (fun x y H Q=>∃i j,x=.str i/\y=.str j/\Q (.bl (!(!(Builtin.Str.occurrences j i 0 j.length 1).isEmpty))) H):=by intro B s G H x y v u Q I r a h;obtain⟨i,j,rfl,rfl,q⟩:=h;obtain⟨t,rfl⟩:=r;obtain⟨e,rfl⟩:=a;exact notIn_str (ba I q rfl)
theorem DA (b:Expr) (h:N≠.In:=by decide) (h2:N≠.NotIn:=by decide):behindInMarks N b=false:=by
 have e:(N == CmpOp.In)=false:=by cases N <;> first | rfl | exact absurd rfl h
 have x:(N == CmpOp.NotIn)=false:=by cases N <;> first | rfl | exact absurd rfl h2
 cases b <;> simp [behindInMarks,e,x]
theorem vP {o:CmpOp}{r:R2} (f:g9 X (compareOp o) r) (n:PE X a ta) (k:PE X b tb) (m:behindInMarks o b=false):PE X (.Compare a [o] [b] O) (CM r ta tb):=by intro B s G H Q I h;exact wpAny_Compare1 (Eh n k I h fun v u p x y H2 e c t q=>f B p G H2 x y v u Q e c t q) m
noncomputable def x6 (t:TE):TT:=fun G H Q=>t G H fun x H'=>∃k,x=.bl k/\Q k H'
theorem vL (o:g9 X (compareOp N) r) (p:PE X a ta) (q:PE X b tb) (d:behindInMarks N b=false):PT X (.Compare a [N] [b] O) (x6 (CM r ta tb)):=by
 intro B s G H Q I h;refine wpAny_isTrue_Compare1 (cC (p B s G H _ I h) fun v F ⟨x,U,f,j,w⟩=>cC (q B F G U _ f w) fun u K ⟨y,H2,m,l,g⟩=>
  cC (o B K G H2 x y v u _ m j l g) fun c P ⟨z,n,t,S,k,e,i⟩=>?_) d
 subst e;cases S;exact i0 ⟨n,t,i⟩
noncomputable def uu (r e:R2) (ta tb tc:TE):TE:=fun G H Q=>ta G H fun x U=>tb G U fun y H2=>r x y H2 fun z h=>∃k,z=.bl k /\
 (if k=true then tc G h fun w a=>e y w a Q else Q (.bl false) h)
theorem yG (F:g9 X (compareOp op) r) (o:g9 X (compareOp N) r') (i:PE X a ta) (j:PE X b tb) (l:PE X c tc)
  (S:lastMarks [op,N] [b,c]=false:=by with_unfolding_all rfl):PE X (.Compare a [op,N] [b,c] O) (uu r r' ta tb tc):=by
 intro B s G H Q I h;refine Compare_chain (cC (i B s G H _ I h) fun v J ⟨x,U,p,C,K⟩=>chain_link (cC (j B J G U _ p K) fun u L ⟨y,H2,w,m,P⟩=>
  cC (F B L G H2 x y v u _ w C m P) fun d M ⟨z,n,f,D,k,e,q⟩=>?_)) S
 subst e;cases D;refine i0 ?_;cases k with
 | false=>exact ite_ff ⟨.bl false,n,f,rfl,q⟩
 | true=>exact ite_tt (chain_last (cC (l B M G n _ f q) fun T R ⟨V,t,g,E,A⟩=>o B R G t y V u T Q g m E A))
theorem ym (C:g9 X (compareOp op) r) (o:g9 X (compareOp N) r') (F:PE X a ta) (K:PE X b tb) (P:PE X c tc)
  (A:lastMarks [op,N] [b,c]=false:=by with_unfolding_all rfl):PT X (.Compare a [op,N] [b,c] O) (x6 (uu r r' ta tb tc)):=by
 intro B s G H Q I h;refine isTrue_chain (cC (F B s G H _ I h) fun v Z ⟨x,U,w,T,J⟩=>test_link (cC (K B Z G U _ w J) fun u s2 ⟨y,H2,g,m,L⟩=>
  cC (C B s2 G H2 x y v u _ g T m L) fun d s3 ⟨z,n,f,V,k,e,q⟩=>?_)) A
 subst e;cases V;refine i0 ?_;cases k with
 | false=>obtain⟨k',l,E⟩:=q;cases l;exact ite_ff ⟨n,f,E⟩
 | true=>refine ite_tt (test_last (cC (P B s3 G n _ f q) fun w' s4 ⟨z',t,i,W,M⟩=>cC (o B s4 G t y z' u w' _ i m W M) fun d' s5 D=>?_));obtain⟨z2,p,j,Y,k2,S,R⟩:=D;subst S;cases Y;exact i0 ⟨p,j,R⟩
noncomputable def El (K:FG) (x:V) (H:Hp) (k:Bool):Prop:=
 match x with
 | .non=>k=false
 | .bl b=>k=b
 | .int i=>k=(i != 0)
 | .str y=>y.length≤sizeLine/\k=((y.length:Int) != 0)
 | .byt y=>y.size≤sizeLine/\k=((y.size:Int) != 0)
 | .ref p=>(∃xs,gL K H p xs/\k=!xs.isEmpty)\/(∃xs,mP K H p xs/\k=!xs.isEmpty)\/∃j,H p=some (.dK j)/\k=!j.isEmpty
 | _=>False
theorem uP (r:KV j N):(!N.isEmpty)=!j.isEmpty:=by cases r <;> rfl
theorem nC (r:aI xs N):(!N.toArray.isEmpty)=!xs.isEmpty:=by cases r <;> simp
theorem i7:(sizeLine:Nat) < 2 ^ 63:=by rw [kS];decide
theorem CI:J1 X (fun x H Q=>∃k,El X.K x H k/\Q k H):=by
 intro B s G H x v Q I n h;obtain⟨k,e,q⟩:=h;have g:=i7;have o:sizeLine=16777216:=kS;cases x with
 | non=>cases n;have a:k=false:=e;subst a;exact truthy_none ⟨H,I,q⟩
 | bl b=>cases n;have a:k=b:=e;subst a;exact i0 ⟨H,I,q⟩
 | int i=>obtain⟨t,rfl⟩:=n;have a:k=(i != 0):=e;subst a;exact PySem.P.truthy_int ⟨H,I,q⟩
 | str y=>obtain⟨t,rfl⟩:=n;obtain⟨u,a⟩:y.length≤sizeLine/\k=((y.length:Int) != 0):=e;subst a;exact PySem.P.truthy_str (by lia) ⟨H,I.tok _,q⟩
 | byt y=>obtain⟨t,rfl⟩:=n;obtain⟨u,a⟩:y.size≤sizeLine/\k=((y.size:Int) != 0):=e;subst a;exact PySem.W.truthy_bytes (by lia) ⟨H,I.tok _,q⟩
 | ref p=>
  cases n;have a:(∃xs,gL X.K H p xs/\k=!xs.isEmpty)\/(∃xs,mP X.K H p xs/\k=!xs.isEmpty)\/∃j,H p=some (.dK j)/\k=!j.isEmpty:=e;rcases a with ⟨xs,f,a⟩ | ⟨xs,f,a⟩ | ⟨j,f,a⟩
  .subst a;obtain⟨d,r,w,z⟩:=I.list f;have l:=r.length;exact wpAny_truthy_list w.isList (by simp only [List.size_toArray];lia) ⟨H,I.tok _,by rw [nC r];exact q⟩
  .subst a;obtain⟨d,r,w,z⟩:=I.tuple f;have l:=r.length;exact truthy_tuple w (by simp only [List.size_toArray];lia) ⟨H,I.tok _,by rw [nC r];exact q⟩
  .subst a;obtain⟨z,S,c,r,m⟩:j.length≤sizeLine/\(p == sysModules)=false/\∃c,KV j c/\s.heap.DictOf (bJ X.prog X.w) p c:=I.hok p _ f;have l:j.length=c.length:=Paired.length r;exact wpAny_truthy_dict S m (by lia) ⟨H,I.tok _,by rw [uP r];exact q⟩
 | _=>exact (show False from e).elim
theorem yk (n:PE X a ta) (f:∀w,isTrue a X.env w=(do let v <- w;standAt a.pos;holding [v] (truthy v))) :
  PT X a (fun G H Q=>ta G H fun x H'=>∃k,El X.K x H' k/\Q k H'):=by
 intro B s G H Q I h;exact isTrue_plain (cC (n B s G H _ I h) fun v b z=>by obtain⟨x,U,e,r,q⟩:=z;exact CI B b G U x v Q e r q) (f _)
theorem uG:g9 X (binaryOp .Add) (fun x y H Q=>∃i j,x=.str i/\y=.str j/\i.length+j.length≤sizeLine/\Q (.str (i++j)) H):=by intro B s G H x y v u Q I r a h;obtain⟨i,j,rfl,rfl,z,q⟩:=h;obtain⟨t,rfl⟩:=r;obtain⟨e,rfl⟩:=a;exact add_str (fun e tk=>⟨.str (i++j),H,I.tok _,⟨_,rfl⟩,q⟩) z
theorem vals1 (r:aI [x] Y):∃u,Y=[u]/\RelV x u:=by
 cases r with
 | cons h a=>cases a;exact⟨_,rfl,h⟩
theorem vals2 (r:aI [x,y] Y):∃u w,Y=[u,w]/\RelV x u/\RelV y w:=by
 cases r with
 | cons h a=>
  cases a with
  | cons e s=>cases s;exact⟨_,_,rfl,h,e⟩
theorem zW:cJ X (.builtin "abs") (fun xs H Q=>∃i,xs=[.int i]/\Q (.int (if i < 0 then -i else i)) H):=by intro B s G H xs Y Q I r h;obtain⟨i,rfl,q⟩:=h;obtain⟨u,rfl,t,rfl⟩:=vals1 r;exact call_abs_int fun u tk=>⟨.int (if i < 0 then -i else i),H,I.tok _,⟨_,rfl⟩,q⟩
theorem pq:cJ X (.type "int") (fun xs H Q=>(∃i,xs=[.int i]/\Q (.int i) H)\/∃k,xs=[.bl k]/\Q (.int (if k then 1 else 0)) H):=by
 intro B s G H xs Y Q I r h;rcases h with ⟨i,rfl,q⟩ | ⟨k,rfl,q⟩
 .obtain⟨u,rfl,t,rfl⟩:=vals1 r;exact call_int_int ⟨.int i,H,I,⟨_,rfl⟩,q⟩
 .obtain⟨u,rfl,x⟩:=vals1 r;cases x;exact call_int_bool ⟨.int (if k then 1 else 0),H,I.tok _,⟨_,rfl⟩,q⟩
end
structure ObjM (h:Heap) (x dx C:Addr) (mA:SV):Prop where
 obj:h.get? x=some (PySem.W.instObj C dx)
 ns:h.Ns1 dx mA
 ne:dx≠x
theorem w9 (n:h.Ns1 dx mA):∃d,h.get? dx=some d/\∀name,PySem.W.lookIn name d=some (mA name):=by
 obtain⟨o,es,p,f,hd,s,_,m⟩:=n;refine⟨o,f,fun name=>?_⟩;have e:=m name;unfold nsFind findBy at e;rw [<- Array.find?_toList] at e;unfold PySem.W.lookIn;rw [hd];dsimp only;split
 .rename_i y q;rw [q] at e;exact congrArg some e
 .rename_i q;rw [q] at e;have a:es.toList.any (·.refKey)=false:=by
   rw [List.any_eq_false];intro y b;obtain⟨z,t,k⟩:=s y (Array.mem_toList_iff.mp b);simp [DictEntry.refKey,k]
  have x:¬es.toList.any (·.refKey)=true:=by rw [a];exact bO
  rw [if_neg x];exact congrArg some e
variable {C:Addr}
theorem ObjM.look (I:ObjM h x dx C mA):∃o,PySem.W.InstAt h x (PySem.W.instObj C dx) C (some o)/\∀name,PySem.W.lookIn name o=some (mA name):=
 let ⟨o,a,l⟩:=w9 I.ns
 ⟨o,⟨I.obj,rfl,rfl,a⟩,l⟩
section
variable {prog:Program}{w:World}{A:Around}{E:VP}{s:Shared}{K:FG}{x dx C f:Addr}{mA:SV}{name:Str}{v:Value}
theorem Bp (X:K.In s.heap) (I:ObjM s.heap x dx C mA) (g:PySem.W.plainGet K C name=true) (n:PySem.W.hasDictIn K C=true)
  (e:PySem.W.findIn K (.ref C) name=some none) (k:mA name=some v) (a:PySem.W.handedIn v=true) (h:Q v { s with toks:=s.toks+1 }) :
  wpAny (model prog w) A (getAttr (.ref x) name N) Q E s:=by
 obtain⟨o,J,l⟩:=I.look;exact PySem.W.get_value X J (qe g).1 (PySem.W.findObj_own n e rfl (by rw [l,k])) a h
theorem zz (X:K.In s.heap) (I:ObjM s.heap x dx C mA) (g:PySem.W.plainGet K C name=true)
  (a:PySem.W.findIn K (.ref C) name=some (some (.ref f))) (t:PySem.W.isFn K (.ref f)=true) (v:mA name=none) (h:Q (.ref f,[.ref x]) s) :
  wpAny (model prog w) A (getMethod (.ref x) name N) Q E s:=by
 obtain⟨o,J,l⟩:=I.look;exact PySem.W.method_fn X J (qe g).1 (qe g).2 a (kf.mp t) (by show (PySem.W.lookIn name o).map (·.isSome)=some false;rw [l,v];rfl) h
theorem AF (X:K.In s.heap) (I:ObjM s.heap x dx C mA)
  (q:PySem.W.findIn K (.ref C) "__setattr__"=some (some (.builtin "object.__setattr__"))) (t:PySem.W.plainOver K C=true) (u:PySem.W.takerIn K C name=some none) (m:PySem.W.hasDictIn K C=true)
  (hw:PySem.Within mA N) (z:N.length≤sizeLine)
  (h:∀h',ObjM h' x dx C (fun y=>if y=name then some v else mA y)->Heap.SameBut dx s.heap h'->Q () { s with heap:=h',toks:=s.toks+2 }) :
  wpAny (model prog w) A (setAttr (.ref x) name v) Q E s:=by
 obtain⟨H,J,l⟩:=I.look;refine PySem.W.set_plain X J q (PySem.W.osa_open (s:={ s with toks:=s.toks+1 }) (r:=none) X J t u fun b=>?_);obtain⟨i,f,d⟩:=PySem.W.any_some m;have g:s.heap.get? x=some ⟨.ref C,some dx,.plain,#[]⟩:=I.obj;refine wpAny_bind (wpAny_pure (wpAny_bind (wpAny_bind (wpAny_loadPart g (wpAny_bind (PySem.W.Looks.here (s:={ s with toks:=s.toks+1 }) (PySem.W.looks_clsIn X f) ?_))))));rw [d];refine wpAny_pure (a:=some dx) (wpAny_bind (wpAny_pure (wpAny_bind ?_)));refine wpAny_nsSet1 (s:={ s with toks:=s.toks+1 }) I.ns fun h' n e=>?_;obtain⟨j,k,p,o,D,c⟩:=n.count (PySem.Within.cons name v hw);refine wpAny_bind (wpAny_lookBehind o (by rw [D];exact pastItsLine_dict (aQ c (by rw [bt];lia))) ?_);exact wpAny_pure (h _ ⟨(e.2 _ (Ne.symm I.ne)).trans I.obj,n,I.ne⟩ e)
theorem yX (X:K.In s.heap) (m:PySem.W.makesIn K C=true)
  (q:PySem.W.findIn K (.ref C) "__init__"=some (some (.ref f))) (x:PySem.W.typeIn K (.ref f)=some (.type "function"))
  (h:codeAny (model prog w) (A.under (.builtin "type.__call__" ⟨.ref C::N,kw⟩)) (.call (.ref f) ⟨.ref (s.heap.objs.size+1)::N,kw⟩) (PySem.W.InitBack (s.heap.objs.size+1) R)
   { s with heap:=(s.heap.push PySem.W.emptyDict).push (PySem.W.instObj C s.heap.objs.size) }) :
  codeAny (model prog w) A (.call (.ref C) ⟨N,kw⟩) R s:=by
 obtain⟨a,g,d,t,os⟩:=s;exact PySem.W.make_core (PySem.W.makes_of X m) (PySem.W.looks_findIn X q) (fun e=>PySem.W.bind_fn X e x) (.inl rfl) h
end
noncomputable def gZ (f:Str) (v:V):List (Str×V)->List (Str×V)
 | []=>[(f,v)]
 | (g,x)::r=>if g=f then (g,v)::r else (g,x)::gZ f v r
theorem lO (f g:Str) (v:V):∀fs:List (Str×V),(gZ f v fs).lookup g=if g=f then some v else fs.lookup g
 | []=>by
  show List.lookup g [(f,v)]=_;by_cases h:g=f
  .have b:(g == f)=true:=kf.mpr h;simp only [List.lookup,b,if_pos h]
  .have b:(g == f)=false:=jZ.mpr h;simp only [List.lookup,b,if_neg h]
 | (k,x)::r=>by
  have i:=lO f g v r;rw [show gZ f v ((k,x)::r)=(if k=f then (k,v)::r else (k,x)::gZ f v r) from rfl];by_cases a:k=f
  .rw [if_pos a];by_cases h:g=k
   .have b:(g == k)=true:=kf.mpr h;simp only [List.lookup,b,if_pos (h.trans a)]
   .have b:(g == k)=false:=jZ.mpr h;simp only [List.lookup,b,if_neg (fun e:g=f=>h (e.trans a.symm))]
  .rw [if_neg a];by_cases h:g=k
   .have b:(g == k)=true:=kf.mpr h;simp only [List.lookup,b,if_neg (fun e:g=f=>a (h.symm.trans e))]
   .have b:(g == k)=false:=jZ.mpr h;simp only [List.lookup,b];exact i
theorem lq (f:Str) (v:V):∀fs:List (Str×V),f ∈ (gZ f v fs).map (·.1)/\∀g,g ∈ fs.map (·.1)->g ∈ (gZ f v fs).map (·.1)
 | []=>⟨by simp [gZ],fun g h=>by simp at h⟩
 | (k,x)::r=>by
  obtain⟨i,s⟩:=lq f v r;rw [show gZ f v ((k,x)::r)=(if k=f then (k,v)::r else (k,x)::gZ f v r) from rfl];by_cases a:k=f
  .rw [if_pos a];subst a;exact⟨by simp,fun g h=>by simpa using h⟩
  .rw [if_neg a];refine⟨?_,fun g h=>?_⟩
   .rw [List.map_cons];exact aZ _ i
   .rw [List.map_cons] at h ⊢;rcases av.mp h with e | e
    .exact av.mpr (.inl e)
    .exact aZ _ (s g e)
theorem lP (f:Str) (v:V):∀fs:List (Str×V),(gZ f v fs).length≤fs.length+1
 | []=>by simp [gZ]
 | (k,x)::r=>by
  have i:=lP f v r;rw [show gZ f v ((k,x)::r)=(if k=f then (k,v)::r else (k,x)::gZ f v r) from rfl];by_cases h:k=f
  .rw [if_pos h,bt,bt];lia
  .rw [if_neg h,bt,bt];lia
theorem iU.some_of {v:V}{o:OV} (r:iU (some v) o):∃u,o=some u/\RelV v u:=by
 cases o with
 | none=>exact (show False from r).elim
 | some u=>exact⟨u,rfl,r⟩
theorem iU.none_of {o:OV} (r:iU none o):o=none:=by
 cases o with
 | none=>rfl
 | some u=>exact (show False from r).elim
variable {v:V}
theorem xl (r:RelV v u):PySem.W.handedIn u=true:=by
 cases v with
 | non=>cases (show u=Value.none from r);rfl
 | bl b=>cases (show u=Value.bool b from r);rfl
 | int i=>obtain⟨t,e⟩:=(show ∃t,u=Value.int i t from r);cases e;rfl
 | str x=>obtain⟨t,e⟩:=(show ∃t,u=Value.str x t from r);cases e;rfl
 | byt b=>obtain⟨t,e⟩:=(show ∃t,u=Value.bytes b t from r);cases e;rfl
 | flt b=>obtain⟨t,e⟩:=(show ∃t,u=Value.float b t from r);cases e;rfl
 | ref a=>cases (show u=Value.ref a from r);rfl
 | ty n=>cases (show u=Value.type n from r);rfl
section
variable {P:Program}{w:World}{H H':Hp}{h h':Heap}{a C dx:Addr}{fs fs':List (Str×V)}
theorem mN (o:jH P w H h) (e:H a=some (.ins C dx fs)):∃mA,ObjM h a dx C mA/\(∀f,iU (fs.lookup f) (mA f))/\PySem.Within mA (fs.map (·.1))/\fs.length≤1000/\H dx=some (.own a):=by obtain⟨d,z,x,b,mA,n,r,q⟩:=(show cb P w H h a (.ins C dx fs) from o a _ e);exact⟨mA,⟨b,n,x⟩,r,q,z,d⟩
end
structure Cls (K:FG) (C:Addr):Prop where
 pg:PySem.W.plainGet K C Str.empty=true
 hd:PySem.W.hasDictIn K C=true
 po:PySem.W.plainOver K C=true
 sa:PySem.W.findIn K (.ref C) "__setattr__"=some (some (.builtin "object.__setattr__"))
theorem Cls.get (c:Cls K C) (f:Str):PySem.W.plainGet K C f=true:=c.pg
noncomputable def ka (K:FG) (C:Addr) (f:Str):Prop:=PySem.W.findIn K (.ref C) f=some none
theorem ka.taker (n:ka K C f):PySem.W.takerIn K C f=some none:=by unfold PySem.W.takerIn;rw [show PySem.W.findIn K (.ref C) f=some none from n];rfl
structure Con (K:FG) (C:Addr) (f:Str) (v:V) (u:Value):Prop where
 at_:PySem.W.findIn K (.ref C) f=some (some u)
 rel:RelV v u
 get:PySem.W.specialIn K u "__get__"=some none
 cp:PySem.W.copiedNames.contains f=false
structure Meth (K:FG) (C:Addr) (m:Str) (f:Addr):Prop where
 at_:PySem.W.findIn K (.ref C) m=some (some (.ref f))
 fn:PySem.W.isFn K (.ref f)=true
 kp:PySem.W.keepIn K (.ref f)=true
section
variable {X:Cx}{B:PN}{G:St}{H:Hp}{s:Shared}{a C dx:Addr}{fs:List (Str×V)}{f:Str}{v:V}{A:Around}{E:VP}
theorem uS {b:Bool}{Q:VP} (I:Inv X B G H s) (e:H a=some (.ins C dx fs)) (c:Cls X.K C) (n:ka X.K C f) (l:fs.lookup f=some v)
  (h:∀u z,Inv X B G H z->RelV v u->Q u z):wpAny (model X.prog X.w) A (getAttr (.ref a) f b) Q E s:=by
 obtain⟨mA,O,r,_,_,_⟩:=mN I.hok e;obtain⟨u,k,x⟩:=iU.some_of (v:=v) (o:=mA f) (by rw [<- l];exact r f);exact Bp I.kIn O (c.get f) c.hd n k (xl x) (h u _ (I.tok _) x)
theorem nI {m:Str}{g:Addr}{p:Sem Bool}{Q:Value×LV->Shared->Prop} (I:Inv X B G H s) (e:H a=some (.ins C dx fs)) (c:Cls X.K C) (k:Meth X.K C m g) (l:fs.lookup m=none)
  (h:Q (.ref g,[.ref a]) s):wpAny (model X.prog X.w) A (getMethod (.ref a) m p) Q E s:=by
 obtain⟨mA,O,r,_,_,_⟩:=mN I.hok e;have n:mA m=none:=iU.none_of (by rw [<- l];exact r m);exact zz I.kIn O (c.get m) k.at_ k.fn n h
theorem uB (I:Inv X B G H s) (e:H a=some (.ins C dx fs)) (c:Cls X.K C) (n:ka X.K C f) (S:fs.length < 1000) (j:RelV y u)
  (h:∀z,Inv X B G (cf H a (.ins C dx (gZ f y fs))) z->Q () z):wpAny (model X.prog X.w) A (setAttr (.ref a) f u) Q E s:=by
 obtain⟨mA,O,r,w,_,t⟩:=mN I.hok e;have i:(fs.map (·.1)).length≤sizeLine:=by rw [bu,kS];lia
 refine AF I.kIn O c.sa c.po n.taker c.hd w i fun h' m l=>h _ ?_;have hd:∃o,h'.get? dx=some o:=let ⟨o,_,_,p,_⟩:=m.ns;⟨o,p⟩
 refine I.write (x:=a) (e:=dx) (by rw [e];exact True.intro) (.inr t) (fun b q v k=>(l.2 b v).trans k) hd ?_;refine⟨by rw [az O.ne];exact t,?_,O.ne,m.obj,_,m.ns,fun g=>?_,fun g d=>?_⟩
 .have:=lP f y fs;lia
 .show iU ((gZ f y fs).lookup g) (if g=f then some u else mA g);rw [lO];by_cases q:g=f
  .rw [if_pos q,if_pos q];exact j
  .rw [if_neg q,if_neg q];exact r g
 .by_cases q:g=f
  .rw [q];exact (lq f y fs).1
  .refine (lq f y fs).2 g (w g fun k=>d ?_);show (if g=f then some u else mA g)=none;rw [if_neg q];exact k
theorem Inv.made (I:Inv X B G H s):Inv X B G (cf (cf H s.heap.objs.size (.own (s.heap.objs.size+1))) (s.heap.objs.size+1) (.ins C s.heap.objs.size []))
  { s with heap:=(s.heap.push PySem.W.emptyDict).push (PySem.W.instObj C s.heap.objs.size) }:=by
 have h:(s.heap.push PySem.W.emptyDict).get? s.heap.objs.size=some PySem.W.emptyDict:=Heap.get?_push_size s.heap rfl;have k:((s.heap.push PySem.W.emptyDict).push (PySem.W.instObj C s.heap.objs.size)).get? (s.heap.objs.size+1)=some (PySem.W.instObj C s.heap.objs.size):=by have:=Heap.get?_push_size (s.heap.push PySem.W.emptyDict) (o:=PySem.W.instObj C s.heap.objs.size) rfl;rwa [Heap.size_push] at this
 have f:(s.heap.push PySem.W.emptyDict).Ns s.heap.objs.size (fun _=>none):=⟨PySem.W.emptyDict,#[],_,h,rfl,(fun e c=>absurd c (by simp)),fun _=>rfl⟩;have x:=I.laid (a:=s.heap.objs.size) (o:=.own (s.heap.objs.size+1)) (h':=s.heap.push PySem.W.emptyDict) (t':=s.toks) (fun b u q=>Heap.get?_push_of_some _ q) (Nat.le_refl _) ⟨_,h⟩;refine x.laid (a:=s.heap.objs.size+1) (o:=.ins C s.heap.objs.size []) (t':=s.toks) (fun b u q=>Heap.get?_push_of_some _ q) (Nat.le_of_eq (Heap.size_push _ _)) ?_;have n:s.heap.objs.size≠s.heap.objs.size+1:=bX (pQ _);refine⟨by rw [az n,aK],Nat.zero_le _,n,k,fun _=>none,(Heap.Ns1.of_empty f).at fun o q=>Heap.get?_push_of_some _ q,fun _=>True.intro,fun y m=>absurd rfl m⟩
theorem BK (b:attributeBase e f N (eval e N)=eval e N)
  (h:wpAny (model prog w) A (eval e N) (fun o x=>wpAny (model prog w) A (getAttr o f true) Q E x) E s):wpAny (model prog w) A (eval (.Attribute e f O) N) Q E s:=
 Attribute_any_ h (by rw [arm_eval_Attribute,b])
end
noncomputable def Ji (K:FG) (ta:TE) (f:Str):TE:=fun G H Q=>ta G H fun x U=>∃a C dx fs v,x=.ref a/\U a=some (.ins C dx fs)/\Cls K C/\ka K C f/\fs.lookup f=some v/\Q v U
noncomputable def Jm (K:FG) (ta tv:TE) (f:Str):TS:=fun D G H=>tv G H fun y U=>ta G U fun x H2=>∃a C dx fs,x=.ref a/\H2 a=some (.ins C dx fs)/\Cls K C/\ka K C f/\fs.length < 1000 /\
 D.nx G (cf H2 a (.ins C dx (gZ f y fs)))
section
variable {X:Cx}{o e value:Expr}{f:Str}{O pos' tpos:Pos}{ta tv:TE}
theorem Dl (t:PE X e ta) (r:attributeBase e f X.env (eval e X.env)=eval e X.env):PE X (.Attribute e f O) (Ji X.K ta f):=by intro B s G H Q I h;refine BK r (cC (t B s G H _ I h) fun u w z=>?_);obtain⟨x,U,k,d,a,C,dx,fs,v,ex,m,c,n,l,q⟩:=z;subst ex;obtain rfl:u=Value.ref a:=d;exact uS k m c n l fun i g b p=>⟨v,U,b,p,q⟩
theorem C9 (r:PE X o ta) (v:PE X value tv) (t:swapsWith value (some (.Attribute o f pos')) O.line X.env=pure false):PS X (.Assign [.Attribute o f pos'] value O) (Jm X.K ta tv f):=by intro B s G H D I h;refine plainObj_wpAny_Assign_Attribute (cC (v B s G H _ I h) fun u i ⟨y,U,e,g,q⟩=>cC (r B i G U _ e q) fun p j z=>?_) t;obtain⟨x,H2,k,w,a,C,dx,fs,ex,m,c,n,l,d⟩:=z;subst ex;obtain rfl:p=Value.ref a:=w;exact uB k m c n l g fun S b=>⟨G,_,b,d⟩
end
section
variable {X:Cx}{B:PN}{G:St}{H:Hp}{s:Shared}{A:Around}{E:VP}{Q:VP}{c:Value}{b:Bool}
inductive TyOf (K:FG) (H:Hp):V->Value->Prop where
 | non:TyOf K H .non (.type "NoneType")
 | bl (x:Bool):TyOf K H (.bl x) (.type "bool")
 | int (i:Int):TyOf K H (.int i) (.type "int")
 | str (x:Str):TyOf K H (.str x) (.type "str")
 | flt (x:UInt64):TyOf K H (.flt x) (.type "float")
 | lst {a:Addr}{xs:List V} (e:H a=some (.lst xs)):TyOf K H (.ref a) (.type "list")
 | frz {a:Addr}{o:Obj}{xs:List V} (e:H a=some (.frz o (.lst xs))):TyOf K H (.ref a) (.type "list")
 | tup {a:Addr}{xs:List V} (e:H a=some (.tup xs)):TyOf K H (.ref a) (.type "tuple")
 | dK {a:Addr}{kvs:List (bC×V)} (e:H a=some (.dK kvs)):TyOf K H (.ref a) (.type "dict")
 | dT {a:Addr}{kvs:List (List bC×V)} (e:H a=some (.dT kvs)):TyOf K H (.ref a) (.type "dict")
 | ins {a C dx:Addr}{fs:List (Str×V)} (e:H a=some (.ins C dx fs)) (cl:Cls K C) (ha:PySem.W.findIn K (.ref C) "__class__"=some (some (.builtin "object.__class__")))
   (hn:PySem.W.specialIn K (.builtin "object.__class__") "__get__"=some (some (.builtin "getset_descriptor.__get__"))) (htk:PySem.W.takesIn K (.builtin "object.__class__")=some true)
   (hm:PySem.W.mroIn K C (.type "object")=some true):TyOf K H (.ref a) (.ref C)
theorem gm (I:Inv X B G H s) (r:RelV x u) (ty:TyOf X.K H x t) (e:PySem.W.kitOne X.K t c=some b) (h:∀tk,Q (.bool b) { s with toks:=tk }) :
  wpAny (model X.prog X.w) A (call (.builtin "isinstance") [u,c]) Q E s:=by
 cases ty with
 | non=>cases (show u=Value.none from r);exact ei PySem.W.kitx_none I.kIn True.intro e (fun z=>nomatch z) h
 | bl y=>cases (show u=Value.bool y from r);exact ei PySem.W.kitx_bool I.kIn True.intro e (fun z=>nomatch z) h
 | int i=>obtain⟨t,q⟩:=(show ∃t,u=Value.int i t from r);cases q;exact ei PySem.W.kitx_int I.kIn True.intro e (fun z=>nomatch z) h
 | str y=>obtain⟨t,q⟩:=(show ∃t,u=Value.str y t from r);cases q;exact ei PySem.W.kitx_str I.kIn True.intro e (fun z=>nomatch z) h
 | flt y=>obtain⟨t,q⟩:=(show ∃t,u=Value.float y t from r);cases q;exact ei PySem.W.kitx_float I.kIn True.intro e (fun z=>nomatch z) h
 | @lst a xs f=>cases (show u=Value.ref a from r);obtain⟨_,_,n,_,J⟩:=(show cb X.prog X.w H s.heap a (.lst xs) from I.hok a _ f);exact ei mU I.kIn ⟨_,J,rfl⟩ e (fun z=>nomatch z) h
 | @frz a S xs f=>cases (show u=Value.ref a from r);obtain⟨_,_,_,n,_,J⟩:=(show cb X.prog X.w H s.heap a (.frz S (.lst xs)) from I.hok a _ f);exact ei mU I.kIn ⟨_,J,rfl⟩ e (fun z=>nomatch z) h
 | @tup a xs f=>cases (show u=Value.ref a from r);obtain⟨_,_,_,p⟩:=(show cb X.prog X.w H s.heap a (.tup xs) from I.hok a _ f);obtain⟨o,J,h2,_⟩:=p;exact ei PySem.W.kitx_tuple I.kIn ⟨o,J,h2.1⟩ e (fun z=>nomatch z) h
 | @dK a j f=>cases (show u=Value.ref a from r);obtain⟨_,_,K,_,p⟩:=(show cb X.prog X.w H s.heap a (.dK j) from I.hok a _ f);obtain⟨o,es,v,J,h2,_⟩:=p;exact ei PySem.W.kitx_dict I.kIn ⟨o,J,h2.1⟩ e (fun z=>nomatch z) h
 | @dT a j f=>cases (show u=Value.ref a from r);obtain⟨_,_,xs,_,o,es,v,J,h2,_⟩:=(show cb X.prog X.w H s.heap a (.dT j) from I.hok a _ f);exact ei PySem.W.kitx_dict I.kIn ⟨o,J,h2.1⟩ e (fun z=>nomatch z) h
 | @ins a C dx fs f l d g m w=>cases (show u=Value.ref a from r);obtain⟨mA,O,_⟩:=mN I.hok f;obtain⟨F,k,_⟩:=O.look;exact ei (PySem.W.kitx_own (l.get _) l.hd d g m w) I.kIn k e (fun z=>nomatch z) h
end
structure Room (k:Nat) (A:Around):Prop where
 hd:A.handled=none
 dp:A.depth+3 * k+5 < recursionLimit
 un:A.units+16 * k+200 < cLine
variable {k:Nat}
theorem Room.deeper (r:Room (k+1) A) (e:Env):Room k (A.deeper e):=
 ⟨r.hd,by have:=r.dp;show A.depth+1+3 * k+5 < _;lia,by have:=r.un;show A.units+3+16 * k+200 < _;lia⟩
variable {kw:List (Str×Value)}
theorem uK:(A.under (.builtin "type.__call__" ⟨.ref C::Y,kw⟩)).depth=A.depth+1:=by first | rfl | simp [Around.under,Code.weight,Code.isCreation,Code.isGuard,Code.isCaller,Code.frames,Code.isFrame,guardIds]
theorem uJ:(A.under (.builtin "type.__call__" ⟨.ref C::Y,kw⟩)).units=A.units+1:=by first | rfl | simp [Around.under,Code.cUnits,Code.frames,Code.isFrame]
theorem Room.make (r:Room (k+1) A) (C:Addr) (Y:LV) (kw:List (Str×Value)):Room k (A.under (.builtin "type.__call__" ⟨.ref C::Y,kw⟩)):=
 ⟨r.hd,by have:=r.dp;rw [uK];lia,by have:=r.un;rw [uJ];lia⟩
theorem Room.depth (r:Room k A):A.depth < recursionLimit:=by have:=r.dp;lia
noncomputable def Fs:TA:=fun _ H Q=>Q [] H
noncomputable def Fx (ta:TE) (tr:TA):TA:=fun G H Q=>ta G H fun x U=>tr G U fun xs H2=>Q (x::xs) H2
section
variable {X:Cx}{e:Expr}{es:Ab}{te:TE}{t:TA}{O:Pos}
theorem gA:PA X [] Fs:=fun _ _ _ _ H Q I h=>jX ⟨[],H,I,.nil,h⟩
theorem dJ (k:PE X e te) (r:PA X es t) (f:starEach (e::es) X.env=(false,eval e X.env)::starEach es X.env:=by rfl):PA X (e::es) (Fx te t):=by intro O B s G H Q I h;rw [f];show wpAny _ _ (spliced ((false,eval e X.env)::backTo O (starEach es X.env))) _ _ s;refine Calls.spliced_cons (cC (k B s G H _ I h) fun u p z=>?_);obtain⟨x,U,a,c,q⟩:=z;exact cC (r O B p G U _ a q) fun Y v z=>by obtain⟨xs,H2,n,m,b⟩:=z;exact⟨x::xs,H2,n,.cons c m,b⟩
noncomputable def Ja (t:TA):TE:=fun G H Q=>t G H fun xs U=>xs.length≤sizeLine/\∀p,U p=none->Q (.ref p) (cf U p (.tup xs))
noncomputable def Jf (t:TA):TE:=fun G H Q=>t G H fun xs U=>xs.length≤sizeLine/\∀p,U p=none->Q (.ref p) (cf U p (.lst xs))
theorem qt {N} (h:PA X es t):PE X (.Tuple es N O) (Ja t):=by intro B s G H Q I n;refine wpAny_Tuple_spliced (cC (h O B s G H _ I n) fun Y x k=>?_);obtain⟨xs,U,a,r,z,q⟩:=k;refine⟨by rw [<- r.length];exact z,?_⟩;have f:U x.heap.objs.size=none:=a.hok.fresh (Nat.le_refl _);refine⟨.ref x.heap.objs.size,cf U x.heap.objs.size (.tup xs),a.laid (t':=x.toks) (fun b u e=>Heap.get?_push_of_some _ e) (Nat.le_refl _) ?_,rfl,q _ f⟩;exact⟨z,Y,r,lK.new _ _⟩
theorem yz (h:PA X es t):PE X (.List es O) (Jf t):=by intro B s G H Q I n;refine wpAny_List_spliced (cC (h O B s G H _ I n) fun Y x k=>?_);obtain⟨xs,U,a,r,z,q⟩:=k;refine⟨by rw [<- r.length];exact z,?_⟩;have f:U x.heap.objs.size=none:=a.hok.fresh (Nat.le_refl _);refine⟨.ref x.heap.objs.size,cf U x.heap.objs.size (.lst xs),a.laid (t':=x.toks) (fun b u e=>Heap.get?_push_of_some _ e) (Nat.le_refl _) ?_,rfl,q _ f⟩;exact⟨z,Y,0,r,Heap.get?_push_size _ rfl⟩
end
noncomputable abbrev Sp:=List V->Hp->VK->XK->Prop
noncomputable abbrev xJ:=List Env->Hp->Shared->XK->VP
structure Env0 (P:Program) (w:World) (K:FG) (mg:SV) (base:Heap) (A:Around) (outer:List Env) (s:Shared) (H:Hp):Prop where
 frames:A.frames=some outer
 mod:Mod K mg base
 bs:∀b o,base.get? b=some o->s.heap.get? b=some o/\H b=none
 bsz:base.objs.size≤s.heap.objs.size
 funs:s.heap.FunFrames base outer
 frf:∀b ∈ zB outer,H b=none
 hok:jH P w H s.heap
 bare:AllBare s.gens
noncomputable def CE (o:List Env) (P:Program) (w:World) (H:Hp) (s:Shared) (Q:VK) (u:Value) (z:Shared):Prop:=
 ∃v H',z.os=s.os/\AllBare z.gens/\Un (zB o) [] H H' s.heap z.heap/\jH P w H' z.heap/\RelV v u/\Q v H'
noncomputable def CR (CX:xJ) (o:List Env) (P:Program) (w:World) (H:Hp) (s:Shared) (Q:VK) (E:XK) (r:Result) (z:Shared):Prop:=
 match r with
 | .ok (.ret u)=>CE o P w H s Q u z
 | .ok _=>False
 | .error e=>CX o H s E e z
structure FnOk (P:Program) (w:World) (K:FG) (mg:SV) (base:Heap) (CX:xJ) (k:Nat) (f:Addr) (fd:FuncData) (ps:LS) (sp:Sp):Prop where
 len:∀vs H Q E,sp vs H Q E->vs.length=ps.length
 run:∀(A:Around) (outer:List Env) (s:Shared) (H:Hp) (args:Args) (us:LV) (vs:List V) (Q:VK) (E:XK),Room k A->Env0 P w K mg base A outer s H->BindsTo s fd args (ps.zip us)->aI vs us->sp vs H Q E ->
  codeAny (model P w) A (.call (.ref f) args) (CR CX outer P w H s Q E) s
theorem FnOk.imp (F:FnOk P w K mg base CX k f fd ps sp)
  (h:∀v H Q E,N v H Q E->sp v H Q E):FnOk P w K mg base CX k f fd ps N:=
 ⟨fun v H Q E q=>F.len v H Q E (h _ _ _ _ q),fun A o s H a Y v Q E r e b n x=>F.run A o s H a Y v Q E r e b n (h _ _ _ _ x)⟩
theorem Env0.make (e:Env0 P w K mg base A N s H) (C:Addr) (Y:LV) (kw:List (Str×Value)) :
  Env0 P w K mg base (A.under (.builtin "type.__call__" ⟨.ref C::Y,kw⟩)) N s H:=⟨by first | exact e.frames | (simpa [Around.under,Code.envs,Code.isFrame,pushEnvs] using e.frames),e.mod,e.bs,e.bsz,e.funs,e.frf,e.hok,e.bare⟩
section
variable {X:Cx}{B:PN}{G:St}{H:Hp}{s z:Shared}
theorem Inv.env0 (I:Inv X B G H s):Env0 X.prog X.w X.K X.mg X.base X.A X.stack s H:=
 ⟨I.ok.frames,I.ok.mod,I.bs,aQ I.ok.bsz I.sz,I.stack,I.stkFree,I.hok,I.bare⟩
theorem Inv.after (I:Inv X B G H s) (h:CE X.stack X.prog X.w H s Q u z):EP X B G Q u z:=by obtain⟨v,H',os,a,un,o,r,q⟩:=h;obtain⟨n,g,d,t,e⟩:=z;obtain rfl:e=s.os:=os;exact⟨v,H',I.call (h':=n) (g':=g) (d':=d) (t':=t) (ch:=[]) un o a (fun b x=>absurd x (by simp)),r,q⟩
end
noncomputable def Fy (sp:Sp) (dvs:List V) (E:XK) (t:TA):TE:=fun G H Q=>t G H fun v U=>sp (v++dvs) U Q E
noncomputable def x8 (C:Addr) (m:Str) (sp:Sp) (dvs:List V) (E:XK) (ta:TE) (t:TA):TE:=fun G H Q=>ta G H fun x U=>∃a dx fs,x=.ref a/\U a=some (.ins C dx fs)/\fs.lookup m=none /\
 t G U fun v H2=>sp (x::(v++dvs)) H2 Q E
noncomputable def Fu (C:Addr) (sp:Sp) (dvs:List V) (E:XK) (t:TA):TE:=fun G H Q=>t G H fun s U=>∀x dx,U x=none->U dx=none->dx≠x ->
 sp (.ref x::(s++dvs)) (cf (cf U dx (.own x)) x (.ins C dx [])) (fun v H2=>v=.non/\Q (.ref x) H2) E
noncomputable def Binds (K:FG) (fd:FuncData) (ps:LS) (ds:LV):Prop:=
 ∀(s:Shared) (Y:LV),K.In s.heap->(Y++ds).length=ps.length->BindsTo s fd ⟨Y,[]⟩ (ps.zip (Y++ds))
theorem Binds.all (h:∀Y:LV,Y.length=ps.length->bindArgs fd ⟨Y,[]⟩=pure (ps.zip Y)):Binds K fd ps []:=fun s Y _ l=>by rw [List.append_nil] at l ⊢;exact .of_eq (h Y l)
noncomputable def j' (CX:xJ) (X:Cx) (E:XK):Prop:=∀(B:PN) (G:St) (H:Hp) (s:Shared) (e:Value) (z:Shared),Inv X B G H s->CX X.stack H s E e z->X.xe e z
section
variable {X:Cx}{CX:xJ}{k:Nat}{f C:Addr}{fd:FuncData}{ps:LS}{sp:Sp}{dvs:List V}{ds:LV}{E:XK}{x m:Str}{p O apos:Pos}{e o:Expr}{es:Ab}{ta:TE}{t:TA}
theorem uD (F:FnOk X.prog X.w X.K X.mg X.base CX k f fd ps sp) (n:Room k X.A) (b:Binds X.K fd ps ds) (hd:aI dvs ds) (c:j' CX X E)
  (I:Inv X B G H s) (r:aI N Y) (h:sp (N++dvs) H Q E):wpAny (model X.prog X.w) X.A (call (.ref f) Y) (EP X B G Q) X.xe s:=by
 have x:aI (N++dvs) (Y++ds):=r.append hd;have a:(Y++ds).length=ps.length:=by rw [<- x.length];exact F.len _ _ _ _ h
 refine wpAny_call (codeAny_mono (F.run X.A X.stack s H ⟨Y,[]⟩ (Y++ds) (N++dvs) Q E n I.env0 (b s Y I.kIn a) x h) fun r z q=>?_);cases r with
 | error e=>exact c B G H s e z I q
 | ok l=>
  cases l with
  | ret u=>exact I.after q
  | next=>exact False.elim q
  | brk=>exact False.elim q
  | cont=>exact False.elim q
theorem qu (F:FnOk X.prog X.w X.K X.mg X.base CX k f fd ps sp) (w:Room k X.A) (g:Gl X x) (v:X.mg x=some (.ref f)) (m:PySem.W.keepIn X.K (.ref f)=true) (b:Binds X.K fd ps ds) (hd:aI dvs ds) (u:j' CX X E)
  (n:PA X (e::es) t) (d:(x == ("__debug__":Str))=false:=by decide) (c:starEach (e::es) X.env=(false,eval e X.env)::starEach es X.env:=by rfl) (l:(backTo O (starEach es X.env)).any (·.1)=false:=by rfl) :
  PE X (.Call (.Name x p) (e::es) [] O) (Fy sp dvs E t):=by
 intro B s G H Q I h;refine kX (qG I g v ?_ d);refine qd (h₀:=X.base) I.ok.mod.kin m (cC (n O B s G H _ I h) fun Y i z=>?_) c l;obtain⟨j,U,a,r,q⟩:=z;refine⟨a.kIn,?_⟩;exact uD F w b hd u a r q
theorem AZ (j:PE X o ta) (c:Cls X.K C) (d:Meth X.K C m f) (F:FnOk X.prog X.w X.K X.mg X.base CX k f fd ps sp) (y:Room k X.A) (i:Binds X.K fd ps ds) (hd:aI dvs ds) (K:j' CX X E) (g:PA X (e::es) t)
  (n:starEach (e::es) X.env=(false,eval e X.env)::starEach es X.env:=by rfl) (p:(backTo O (starEach es X.env)).any (·.1)=false:=by rfl)
  (S:eval (.Call (.Attribute o m apos) (e::es) [] O) X.env=(do
   let N <- eval o X.env
   standAt apos.atName
   let (f,first) <- holding [N] (getMethod N m pl)
   callWith O f first (backTo O (starEach (e::es) X.env)) (backToKw O (keywordEach [] X.env))):=by rfl) :
  PE X (.Call (.Attribute o m apos) (e::es) [] O) (x8 C m sp dvs E ta t):=by
 intro B s G H Q I h;refine PySem.W.methodCall_KW (pl:=pl) (cC (j B s G H _ I h) fun u D z=>?_) S;obtain⟨x,U,b,A,a,dx,fs,ex,w,l,q⟩:=z;subst ex;obtain rfl:u=Value.ref a:=A;refine nI b w c d l ?_;refine qd (first:=[.ref a]) (h₀:=X.base) I.ok.mod.kin d.kp (cC (g O B D G U _ b q) fun Y L z=>?_) n p;obtain⟨J,H2,v,r,P⟩:=z;refine⟨v.kIn,?_⟩;exact uD (Y:=.ref a::Y) (N:=.ref a::J) F y i hd K v (.cons rfl r) P
theorem yy (t:PE X o ta) (c:Cls X.K C) (n:Meth X.K C m f) (F:FnOk X.prog X.w X.K X.mg X.base CX k f fd ps sp) (p:Room k X.A) (r:Binds X.K fd ps ds) (hd:aI dvs ds) (d:j' CX X E)
  (v:eval (.Call (.Attribute o m apos) [] [] O) X.env=(do
   let N <- eval o X.env
   standAt apos.atName
   let (f,first) <- holding [N] (getMethod N m pl)
   callWith O f first (backTo O (starEach [] X.env)) (backToKw O (keywordEach [] X.env))):=by rfl) :
  PE X (.Call (.Attribute o m apos) [] [] O) (x8 C m sp dvs E ta Fs):=by
 intro B s G H Q I h;refine PySem.W.methodCall_KW (pl:=pl) (cC (t B s G H _ I h) fun u g z=>?_) v;obtain⟨x,U,e,w,a,dx,fs,ex,b,l,q⟩:=z;subst ex;obtain rfl:u=Value.ref a:=w;refine nI e b c n l ?_;exact PySem.W.callWith_K0 (first:=[.ref a]) e.kIn n.kp (uD (Y:=[.ref a]) (N:=[.ref a]) F p r hd d e (.cons rfl .nil) q)
structure Mk (K:FG) (C f:Addr):Prop where
 makes:PySem.W.makesIn K C=true
 init:PySem.W.findIn K (.ref C) "__init__"=some (some (.ref f))
 fn:PySem.W.isFn K (.ref f)=true
 kp:PySem.W.keepIn K (.ref C)=true
theorem yf (M:Mk X.K C f) (F:FnOk X.prog X.w X.K X.mg X.base CX k f fd ps sp) (d:Room (k+1) X.A) (t:Binds X.K fd ps ds) (hd:aI dvs ds)
  (w:j' CX X E) (I:Inv X B G H s) (r:aI N Y)
  (h:∀x dx,H x=none->H dx=none->dx≠x->sp (.ref x::(N++dvs)) (cf (cf H dx (.own x)) x (.ins C dx [])) (fun v H2=>v=.non/\Q (.ref x) H2) E) :
  wpAny (model X.prog X.w) X.A (call (.ref C) Y) (EP X B G Q) X.xe s:=by
 have n:=h (s.heap.objs.size+1) s.heap.objs.size (I.hok.fresh (mB _)) (I.hok.fresh (Nat.le_refl _)) (bX (pQ _));have a:=Inv.made (C:=C) I;have b:aI (V.ref (s.heap.objs.size+1)::(N++dvs)) (Value.ref (s.heap.objs.size+1)::(Y++ds)):=.cons rfl (r.append hd);have p:(Value.ref (s.heap.objs.size+1)::Y++ds).length=ps.length:=by have e:=b.length;rw [F.len _ _ _ _ n] at e;exact e.symm
 refine wpAny_call (yX (f:=f) I.kIn M.makes M.init (kf.mp M.fn) (codeAny_mono (F.run _ X.stack _ _ ⟨Value.ref (s.heap.objs.size+1)::Y,[]⟩ (Value.ref (s.heap.objs.size+1)::(Y++ds)) _ _ E (d.make C Y [])
  (a.env0.make C Y []) (t _ (Value.ref (s.heap.objs.size+1)::Y) a.kIn p) b n) fun r z q=>?_))
 cases r with
 | error e=>exact w B G _ _ e z a q
 | ok l=>
  cases l with
  | ret u=>obtain⟨v,H',c,i,m,g⟩:=a.after q;subst m;exact⟨i,⟨V.ref (s.heap.objs.size+1),H',c,rfl,g⟩⟩
  | next=>exact False.elim q
  | brk=>exact False.elim q
  | cont=>exact False.elim q
theorem A0 (M:Mk X.K C f) (F:FnOk X.prog X.w X.K X.mg X.base CX k f fd ps sp) (v:Room (k+1) X.A) (g:Gl X x) (m:X.mg x=some (.ref C)) (b:Binds X.K fd ps ds) (hd:aI dvs ds) (w:j' CX X E)
  (n:PA X (e::es) t) (d:(x == ("__debug__":Str))=false:=by decide) (c:starEach (e::es) X.env=(false,eval e X.env)::starEach es X.env:=by rfl) (l:(backTo O (starEach es X.env)).any (·.1)=false:=by rfl) :
  PE X (.Call (.Name x p) (e::es) [] O) (Fu C sp dvs E t):=by
 intro B s G H Q I h;refine kX (qG I g m ?_ d);refine qd (h₀:=X.base) I.ok.mod.kin M.kp (cC (n O B s G H _ I h) fun Y u z=>?_) c l;obtain⟨i,U,a,r,q⟩:=z;refine⟨a.kIn,?_⟩;exact yf M F v b hd w a r q
end
section
variable {X:Cx}{CX:xJ}{k:Nat}{f C:Addr}{fd:FuncData}{ps ks:LS}{sp:Sp}{E:XK}{x m:Str}{p O apos kpos:Pos}{e o:Expr}{es:Ab}{kws:List Keyword}{te ta:TE}{t tk:TA}{nm:Option Str}
structure KBinds (K:FG) (fd:FuncData) (ps ks:LS) (g:LV->LV->LV) (gV:List V->List V->List V):Prop where
 to:∀(s:Shared) (us ws:LV),K.In s.heap->(g us ws).length=ps.length->BindsTo s fd ⟨us,ks.zip ws⟩ (ps.zip (g us ws))
 rel:∀{vs:List V}{us:LV}{zs:List V}{ws:LV},aI vs us->aI zs ws->aI (gV vs zs) (g us ws)
variable {g:LV->LV->LV}{gV:List V->List V->List V}
end
structure FnScope (N P:LS) (sc:Scope):Prop where
 kind:sc.kind=.function
 co:sc.isCoroutine=false
 gen:sc.isGenerator=false
 nd:N.Nodup
 pre:N.take P.length=P
 par:∀x ∈ P,sc.names.lookup x=some .local\/sc.names.lookup x=some .cell
 nofree:∀y ∈ sc.names,y.2≠.free
theorem pA {kindOf:Str->Option NameKind}{x:Str}:∀{b:List (Str×Value)}{m:SV},(∀v,(x,v) ∉ b)->bindL kindOf b m x=m x
 | [],_,_=>rfl
 | (n,v)::r,m,h=>by
  unfold bindL;rw [pA fun w hw=>h w (aZ _ hw)];split
  .have:x≠n:=by rintro rfl;exact h v List.mem_cons_self
   simp [this]
  .rfl
theorem pC {kindOf:Str->Option NameKind}{x:Str}:∀{b:List (Str×Value)}{m:SV},(∀v,(x,v) ∉ b)->bindC kindOf b m x=m x
 | [],_,_=>rfl
 | (n,v)::r,m,h=>by
  unfold bindC;rw [pC fun w hw=>h w (aZ _ hw)];split
  .rfl
  .have:x≠n:=by rintro rfl;exact h v List.mem_cons_self
   simp [this]
theorem pB {kindOf:Str->Option NameKind}{x:Str}{v:Value}:∀{P:LS}{s:LV}{i:Nat}{m:SV},P.Nodup->P[i]? = some x->s[i]? = some v->kindOf x=some .local ->
  bindL kindOf (P.zip s) m x=some v
 | [],_,_,_,_,h,_,_=>by simp at h
 | _::_,[],_,_,_,_,h,_=>by simp at h
 | p::P,w::s,0,m,n,J,h2,k=>by simp at J h2;subst J;subst h2;show bindL kindOf ((p,w)::P.zip s) m p=_;unfold bindL;rw [pA fun v a=>(List.nodup_cons.mp n).1 (List.of_mem_zip a).1,if_pos k];simp
 | p::P,w::s,i+1,m,n,J,h2,k=>by show bindL kindOf ((p,w)::P.zip s) m x=_;unfold bindL;exact pB (i:=i) (List.nodup_cons.mp n).2 (by simpa using J) (by simpa using h2) k
theorem pD {kindOf:Str->Option NameKind}{x:Str}{v:Value}:∀{P:LS}{s:LV}{i:Nat}{m:SV},P.Nodup->P[i]? = some x->s[i]? = some v->kindOf x≠some .local ->
  bindC kindOf (P.zip s) m x=some v
 | [],_,_,_,_,h,_,_=>by simp at h
 | _::_,[],_,_,_,_,h,_=>by simp at h
 | p::P,w::s,0,m,n,J,h2,k=>by simp at J h2;subst J;subst h2;show bindC kindOf ((p,w)::P.zip s) m p=_;unfold bindC;rw [pC fun v a=>(List.nodup_cons.mp n).1 (List.of_mem_zip a).1,if_neg k];simp
 | p::P,w::s,i+1,m,n,J,h2,k=>by show bindC kindOf ((p,w)::P.zip s) m x=_;unfold bindC;exact pD (i:=i) (List.nodup_cons.mp n).2 (by simpa using J) (by simpa using h2) k
noncomputable def start (N:LS) (v:List V):St:=v.map some++List.replicate (N.length-v.length) none
noncomputable def tN (CX:xJ) (P:Program) (w:World) (K:FG) (mg:SV) (base:Heap) (N:LS) (q:Str) (c:Scope) (f:Addr) (d:Value) (A:Around) (o:List Env) (s:Shared) (H:Hp) (E:XK):Cx where
 prog:=P
 w:=w
 K:=K
 mg:=mg
 base:=base
 A:=A.deeper (envOfC q c s.heap.objs.size f d)
 N:=N
 s₀:=s
 H₀:=H
 env:=envOfC q c s.heap.objs.size f d
 outer:=o
 stack:=envOfC q c s.heap.objs.size f d::o
 ex:=[]
 calm:=true
 fn:=fun _=>true
 pn:=[]
 xe:=fun e z=>wpAny (model P w) (A.deeper (envOfC q c s.heap.objs.size f d)) (leaving (envOfC q c s.heap.objs.size f d) e) (fun _ h=>CX o H s E e h) (fun x h=>CX o H s E x h) z
variable {x:Str}
theorem tX {sc:Scope} (h:sc.names.lookup x=some .cell):∃c,(cellsFrom n sc.names []).lookup x=some c:=by have q:=PySem.W.cellsFrom_some sc.names n [] (.inl h);exact Option.isSome_iff_exists.mp q
theorem xg {CX:xJ}{P:Program}{w:World}{K:FG}{mg:SV}{base:Heap}{N ps:LS}{l:Str}{o:Scope}{f:Addr}{D:Value}{A:Around}{t:List Env}{s L:Shared}{H:Hp}{E:XK}{Y:LV}{F:List V}
  (S:FnScope N ps o) (hd:A.handled=none) (d:Env0 P w K mg base A t s H) (T:F.length=ps.length) (r:aI F Y)
  (x:InCallC s s.heap.objs.size (bindL (envOfC l o s.heap.objs.size f D).kindOf (ps.zip Y) fun _=>none) (cellsFrom (s.heap.objs.size+1) o.names []) (bindC (envOfC l o s.heap.objs.size f D).kindOf (ps.zip Y) fun _=>none) L) :
  Inv (tN CX P w K mg base N l o f D A t s H E) [] (start N F) H L:=by
 have O:ps.length≤N.length:=by have:=congrArg List.length S.pre;rw [ib] at this;lia
 obtain⟨J,tk,rfl,G⟩:=x.done;have j:∀b:Addr,b ∉ (tN CX P w K mg base N l o f D A t s H E).ex:=fun b z=>absurd (show b ∈ ([]:List Addr) from z) (by simp);refine⟨⟨d.mod,S.kind,rfl,rfl,Nat.le_refl _,fun y z c J h2=>?_,fun y g=>?_,fun y c _ h=>?_,fun _=>hd,Around.frames_deeper d.frames,.inr ⟨rfl,rfl⟩,fun b z=>absurd z (j b),d.bs,d.bsz,fun b _ _=>j b,fun b z=>absurd z (j b),d.funs,d.frf⟩,
  rfl,d.bare,Un.kept G,⟨_,x.toInCall.ns,fun i y v J h2 R=>?_⟩,fun y c h=>⟨_,x.cell y c h⟩,d.hok.fresh (Nat.le_refl _),fun y c h=>?_,fun p B=>absurd (show p ∈ ([]:PN) from B) (by simp),d.hok.kept G,?_⟩
 .exact name_of_addr x.apart (mW J) (mW h2)
 .have g:o.names.lookup y=some .cell\/o.names.lookup y=some .free:=g;rcases g with g | g
  .exact tX g
  .exact absurd rfl (S.nofree _ (mW g))
 .exact h7 (x.above y c (mW h))
 .have q:i < F.length:=by
   unfold start at h2;by_cases q:i < F.length
   .exact q
   .rw [fQ (by simpa using q)] at h2;rw [ue] at h2;split at h2 <;> cases h2
  have M:F[i]? = some v:=by
   unfold start at h2;rw [List.getElem?_append_left (by simpa using q),List.getElem?_map] at h2;cases e:F[i]? with
   | none=>rw [e] at h2;cases h2
   | some a=>rw [e] at h2;cases h2;rfl
  obtain⟨u,I,Q⟩:=r.get M;have B:ps[i]? = some y:=by rw [<- S.pre,ii (by lia)];exact J
  have C:ps.Nodup:=by rw [<- S.pre];exact S.nd.sublist (List.take_sublist _ _)
  refine⟨u,Q,?_⟩;rcases S.par y (bY B) with k | k
  .exact .inl ⟨k,pB C B I k⟩
  .obtain⟨c,e⟩:=tX (n:=s.heap.objs.size+1) k;refine .inr ⟨.inl k,c,e,?_⟩;have m:=x.cell y c e;rw [pD C B I (by show o.names.lookup y≠_;rw [k];decide)] at m;exact m
 .exact d.hok.fresh (h7 (x.above y c (mW h)))
 .unfold start;show _=N.length;rw [cV,bu,List.length_replicate];lia
theorem GV {CX:xJ}{P:Program}{w:World}{K:FG}{mg:SV}{base:Heap}{k:Nat}{f:Addr}{name a:Str}{p:Arguments}{m:List Stmt}{c:Scope}{dV kV B pm d Z oc:Value}{U od:Option Addr}
  {R:Array (OV)}{N ps:LS}{sp:Sp} (lk:K.lookup f=some ⟨oc,od,.func (PySem.W.fnOf name a p m c dV kV B pm U d Z),R⟩) (L:PySem.W.codeIn K d a=true) (S:FnScope N ps c)
  (len:∀g H Q E,sp g H Q E->g.length=ps.length)
  (j:∀(A:Around) (h:List Env) (s:Shared) (H:Hp) (g:List V) (Q:VK) (E:XK),Room k (A.deeper (envOfC a c s.heap.objs.size f d))->sp g H Q E ->
   ∃t,mw (tN CX P w K mg base N a c f d A h s H E) m t/\t { nx:=fun _ H'=>Q .non H',rt:=Q } (start N g) H) :
  FnOk P w K mg base CX (k+1) f (PySem.W.fnOf name a p m c dV kV B pm U d Z) ps sp:=by
 refine⟨len,fun A h s H W Y g Q E M C hb r G=>?_⟩;have hl:=len _ _ _ _ G;have X:K.In s.heap:=C.mod.kin.keeps fun b o e=>(C.bs b o e).1;have O:s.heap.NoLimit:=C.mod.nolimit.keeps fun b o e=>(C.bs b o e).1;have l:∀y ∈ ps.zip Y,c.names.lookup y.1=some .local\/(c.names.lookup y.1=some .cell/\((cellsFrom (s.heap.objs.size+1) c.names []).lookup y.1).isSome=true):=fun ⟨n,v⟩ hy=>by
  rcases S.par n (List.of_mem_zip hy).1 with q | q
  .exact .inl q
  .exact .inr ⟨q,PySem.W.cellsFrom_some _ _ _ (.inl q)⟩
 refine codeAny_call_function M.depth (X _ _ lk) rfl S.co S.gen rfl (PySem.W.codeRec_of X L) (hb _ _ _ _ ?_);refine wpAny_newFunctionEnv_cells S.kind l fun env he s1 x=>?_;subst he;refine⟨O.keeps x.toInCall.keep,codeAny_func ?_⟩;obtain⟨t,ht,hq⟩:=j A h s H g Q E (M.deeper _) G;have I:Inv (tN CX P w K mg base N a c f d A h s H E) [] (start N g) H s1:=xg S M.hd C hl r x;refine wpAny_mono (ht [] s1 (start N g) H _ I hq) (fun fl z F=>?_) fun e z F=>F;have D:∀{i:St}{H':Hp}{v:V}{u:Value},Inv (tN CX P w K mg base N a c f d A h s H E) [] i H' z->RelV v u->Q v H'->CE h P w H s Q u z:=
  fun {i H' v u} J T q=>⟨v,H',J.os,J.bare,J.base,J.hok,T,q⟩
 cases fl with
 | ret u=>obtain⟨v,i,H',J,T,q⟩:=F;exact D J T q
 | next=>obtain⟨i,H',J,q⟩:=F;exact D (v:=V.non) (u:=Value.none) J rfl q
 | brk=>obtain⟨_,_,_,q⟩:=F;exact False.elim q
 | cont=>obtain⟨_,_,_,q⟩:=F;exact False.elim q
section
variable {X:Cx}{x:Str}{p O:Pos}{e:Expr}{es:Ab}{t:TA}{id T:String}{r:List V->Hp->VK->Prop}
noncomputable def J' (r:List V->Hp->VK->Prop) (t:TA):TE:=fun G H Q=>t G H fun v U=>r v U Q
theorem kn (c:cJ X (.builtin id) r) (g:Gl X x) (m:X.mg x=none) (v:bootBuiltins x=some (.builtin id)) (n:PA X (e::es) t) (f:x≠"__name__":=by decide) (d:(x == ("__debug__":Str))=false:=by decide)
  (k:starEach (e::es) X.env=(false,eval e X.env)::starEach es X.env:=by rfl) (l:(backTo O (starEach es X.env)).any (·.1)=false:=by rfl):PE X (.Call (.Name x p) (e::es) [] O) (J' r t):=by
 intro B s G H Q I h;refine kX (i9 I g m v ?_ f d);exact PyProof.Rows.callWith_builtin1 (cC (n O B s G H _ I h) fun Y w z=>by obtain⟨u,U,a,b,q⟩:=z;exact c B w G U u Y Q a b q) k l
theorem lm (c:cJ X (.type T) r) (g:Gl X x) (m:X.mg x=none) (v:bootBuiltins x=some (.type T)) (n:PA X (e::es) t) (f:x≠"__name__":=by decide) (d:(x == ("__debug__":Str))=false:=by decide)
  (k:starEach (e::es) X.env=(false,eval e X.env)::starEach es X.env:=by rfl) (l:(backTo O (starEach es X.env)).any (·.1)=false:=by rfl):PE X (.Call (.Name x p) (e::es) [] O) (J' r t):=by
 intro B s G H Q I h;refine kX (i9 I g m v ?_ f d);exact lb (cC (n O B s G H _ I h) fun Y w z=>by obtain⟨u,U,a,b,q⟩:=z;exact c B w G U u Y Q a b q) k l
end
end L2
namespace HT
open PySem PyProof.Rows
section
variable {prog:Program}{w:World}{A:Around}{E:VP}{s:Shared}
theorem BE (q:IsTup s.heap t vs.toArray) (p:IsTup s.heap b N.toArray) (v:vs≠[])
  (J:N=[]->Q (.ref t) s) (h2:N≠[]->Q (.ref s.heap.objs.size) { s with heap:=s.heap.push { cls:=.type "tuple",data:=.seq (vs++N).toArray } })
  (z:vs.length+N.length≤sizeLine):wpAny (model prog w) A (binaryOp .Add (.ref t) (.ref b)) Q E s:=by
 obtain⟨⟨cls,k,data,r⟩,o,f,n,hd⟩:=id q;obtain⟨⟨a,d,data2,l⟩,h,c,m,x⟩:=id p;simp only at f hd c x;subst f hd c x;have e:vs.toArray++N.toArray=(vs++N).toArray:=by simp
 by_cases hw:N=[]
 .exact concat_meets ⟨_,o,rfl⟩ ⟨_,h,rfl⟩ noFill_tuple_add seq_tuple_add ub uf (ui _ _)
   (tuple_addW1 t b vs.toArray N.toArray n m k d r l (by simpa using v) (by simp [hw])) ⟨o,h,J hw⟩
 .refine concat_meets ⟨_,o,rfl⟩ ⟨_,h,rfl⟩ noFill_tuple_add seq_tuple_add ub uf (ui _ _)
   (tuple_addW2 t b vs.toArray N.toArray n m k d r l (by simpa using v) (by simpa using hw) (by rw [List.size_toArray,List.size_toArray];exact z)) ⟨o,h,?_⟩
  rw [e];exact h2 hw
noncomputable def d4 (n d:Nat):Option Int->Nat
 | none=>d
 | some v=>if v < 0 then (v+(n:Int)).toNat else min v.toNat n
theorem sj (n d:Nat):d4 n d none=d:=rfl
theorem vJ (n d k:Nat):d4 n d (some (k:Int))=min k n:=by show (if (k:Int) < 0 then ((k:Int)+(n:Int)).toNat else min (k:Int).toNat n)=min k n;rw [if_neg (by lia),Int.toNat_natCast]
theorem C0 (n d:Nat) (hd:d≤n) (o:Option Int):d4 n d o≤n:=by
 cases o with
 | none=>exact hd
 | some v=>
  show (if v < 0 then (v+(n:Int)).toNat else min v.toNat n)≤n;by_cases h:v < 0
  .rw [if_pos h];lia
  .rw [if_neg h];exact Nat.min_le_right _ _
theorem wo (v:Int) (n d:Nat):(if v < 0 then max (v+(n:Int)) 0 else min v (n:Int))=((d4 n d (some v):Nat):Int):=by
 show (if v < 0 then max (v+(n:Int)) 0 else min v (n:Int))=(((if v < 0 then (v+(n:Int)).toNat else min v.toNat n):Nat):Int);by_cases h:v < 0
 .simp only [if_pos h];lia
 .simp only [if_neg h];lia
theorem vf (I q:Option Int) (n:Nat):Builtin.Slice.sliceAdjust I q 1 (n:Int)=(((d4 n 0 I:Nat):Int),((d4 n n q:Nat):Int)):=by
 have J:¬((1:Int) < 0):=by lia
 unfold Builtin.Slice.sliceAdjust;simp only [J,if_false];refine Prod.ext ?_ ?_
 .cases I with
  | none=>rfl
  | some v=>exact wo v n 0
 .cases q with
  | none=>rfl
  | some v=>exact wo v n n
theorem uF (i j:Nat):Builtin.Slice.slicePlaces (i:Int) (j:Int) 1=j-i:=by
 unfold Builtin.Slice.slicePlaces;have J:(1:Int) > 0:=by lia
 simp only [J,ik,Int.ediv_one];split <;> lia
theorem nh (p:IsPart v o) (h:Q o s):wpAny (model prog w) A (Builtin.Slice.slicePartIndex v) Q E s:=by
 cases p with
 | none=>exact slicePart_none h
 | int i t=>exact slicePart_int h
theorem hG {l:Addr}{v u:Value}{I q:Option Int}{n:Nat}{Q:Int×Int×Nat->Shared->Prop} (a:s.heap.IsSliceOf l v u .none) (p:IsPart v I) (e:IsPart u q)
  (h:Q (((d4 n 0 I:Nat):Int),1,d4 n n q-d4 n 0 I) s):wpAny (model prog w) A (Builtin.Slice.sliceApplied (.ref l) (pure (n:Int))) Q E s:=by
 obtain⟨os,o,c,d⟩:=id a;unfold Builtin.Slice.sliceApplied Builtin.Slice.sliceFields;refine wpAny_bind (wpAny_bind (wpAny_field o d (x:=v) rfl (wpAny_bind (wpAny_field o d (x:=u) rfl (wpAny_bind (wpAny_field o d (x:=.none) rfl (wpAny_pure ?_)))))));refine wpAny_bind (slicePart_none ?_);show wpAny _ _ (if ((1:Int) == 0)=true then _ else _) _ _ s;rw [if_neg (by decide)];refine wpAny_bind (nh p (wpAny_bind (nh e (wpAny_bind (wpAny_pure ?_)))));show wpAny _ _ (match Builtin.Slice.sliceAdjust I q 1 (n:Int) with | (I,q)=>pure (I,(1:Int),Builtin.Slice.slicePlaces I q 1)) _ _ s;rw [vf I q n];show wpAny _ _ (pure (((d4 n 0 I:Nat):Int),(1:Int),Builtin.Slice.slicePlaces ((d4 n 0 I:Nat):Int) ((d4 n n q:Nat):Int) 1)) _ _ s;rw [uF];exact wpAny_pure h
theorem yu (xs:Array Value) (i k:Nat):((List.range k).filterMap fun (m:Nat)=>xs[((i:Int)+(m:Int) * 1).toNat]?).toArray=((xs.toList.drop i).take k).toArray:=by
 have e:(fun (m:Nat)=>xs[((i:Int)+(m:Int) * 1).toNat]?)=fun m=>xs[i+m]?:=by
  funext m;have:((i:Int)+(m:Int) * 1).toNat=i+m:=by lia
  rw [this]
 rw [e];have:=pick_run xs i k
 rw [List.filterMap_map] at this;have h:((fun x=>xs[x]?) ∘ fun x=>i+x)=fun m=>xs[i+m]?:=rfl;rw [h] at this;rw [this]
theorem kC {t l:Addr}{i:Array Value}{v u:Value}{I q:Option Int}{Q:VP} (e:IsTup s.heap t i) (k:s.heap.IsSliceOf l v u .none) (p:IsPart v I) (f:IsPart u q)
  (hw:¬(d4 i.size 0 I=0/\d4 i.size i.size q=i.size))
  (h:Q (.ref s.heap.objs.size) { s with heap:=s.heap.push { cls:=.type "tuple",data:=.seq ((i.toList.drop (d4 i.size 0 I)).take (d4 i.size i.size q-d4 i.size 0 I)).toArray } })
  (z:i.size≤sizeLine):wpAny (model prog w) A (getItem (.ref t) (.ref l)) Q E s:=by
 have a:sizeOk (.seq ((i.toList.drop (d4 i.size 0 I)).take (d4 i.size i.size q-d4 i.size 0 I)).toArray):=by show ((i.toList.drop (d4 i.size 0 I)).take (d4 i.size i.size q-d4 i.size 0 I)).toArray.size≤sizeLine;rw [List.size_toArray,ib,p9,kZ];lia
 have j:d4 i.size i.size q≤i.size:=C0 _ _ (Nat.le_refl _) q;obtain⟨os,o,c,d⟩:=id k;have T:s.TypeIs (.ref l) "slice":=⟨os,o,c⟩;unfold getItem;try with_reducible refine wpAny_holding ?_
 first | refine wpAny_bind (wpAny_pure ?_) | skip
 refine wpAny_bind (wpAny_sequenceKey e.typeIs (by decide) ?_);refine wpAny_bind (wpAny_callSpecial?_slot (name:=Str.ofString "__getitem__") e.typeIs jU
  (wpAny_call_entry jU e.typeIs entry_tuple_getitem ?_ (args_tuple_getitem _ _)))
 show wpAny _ _ (Builtin.Tuple.tupleItemsOf (.ref t) >>= _) _ _ s;refine wpAny_bind (tupleItemsOf_ e ?_);refine wpAny_bind (kh T ?_);rw [if_pos (by decide)];refine wpAny_bind (hG k p f ?_);have n:¬((((d4 i.size 0 I:Nat):Int) == 0 && (1:Int) == 1 && (d4 i.size i.size q-d4 i.size 0 I) == i.size)=true):=by intro x;rw [Bool.and_eq_true,Bool.and_eq_true] at x;have b:((d4 i.size 0 I:Nat):Int)=0:=eq_of_beq x.1.1;have r:d4 i.size i.size q-d4 i.size 0 I=i.size:=eq_of_beq x.2;exact hw ⟨by lia,by lia⟩
 show wpAny _ _ (if (((d4 i.size 0 I:Nat):Int) == 0 && (1:Int) == 1 && (d4 i.size i.size q-d4 i.size 0 I) == i.size)=true then _ else _) _ _ s;rw [if_neg n,yu];first
  | exact wpAny_bind (m:=Builtin.Tuple.tupleExact _) (wpAny_newObj_type (wpAny_pure ⟨_,rfl,wpAny_pure h⟩) a)
  | exact wpAny_bind (m:=Builtin.Tuple.tupleExact _) (wpAny_newObj_type (wpAny_bind (wpAny_pure (wpAny_pure ⟨_,rfl,wpAny_pure h⟩))) a)
  | exact wpAny_bind (wpAny_bind (m:=Builtin.Tuple.tupleExact _) (wpAny_newObj_type (wpAny_pure (wpAny_pure ⟨_,rfl,wpAny_pure h⟩)) a))
  | exact wpAny_bind (wpAny_bind (m:=Builtin.Tuple.tupleExact _) (wpAny_newObj_type (wpAny_pure ⟨_,rfl,wpAny_pure h⟩) a))
end
end HT
namespace L2
open PySem PySem.Spec PyProof.Rows
noncomputable abbrev TO:=St->Hp->(Option Int->Hp->Prop)->Prop
noncomputable def PO (X:Cx) (e:Option Expr) (t:TO):Prop:=
 ∀(B:PN) (s:Shared) (G:St) (H:Hp) (Q:Option Int->Hp->Prop),Inv X B G H s->t G H Q ->
  wpAny (model X.prog X.w) X.A (evalPart e X.env) (fun u z=>∃o H',Inv X B G H' z/\IsPart u o/\Q o H') X.xe s
noncomputable def AB:TO:=fun _ H Q=>Q none H
noncomputable def Fp (t:TE):TO:=fun G H Q=>t G H fun x U=>∃i,x=.int i/\Q (some i) U
section
variable {X:Cx}{e:Expr}{te:TE}{I q:Option Expr}{tl th:TO}{O p2:Pos}
theorem AV:PO X none AB:=by intro B s G H Q I h;rw [evalPart_none];exact wpAny_pure ⟨none,H,I,.none,h⟩
theorem AT (h:PE X e te):PO X (some e) (Fp te):=by
 intro B s G H Q I hw;rw [evalPart_some];refine cC (h B s G H _ I hw) fun u k z=>?_
 obtain⟨x,U,a,r,n⟩:=z;obtain⟨i,rfl,q⟩:=n;obtain⟨t,rfl⟩:=r;exact⟨some i,U,a,.int i t,q⟩
noncomputable def BQ (X:Cx) (r:V->Option Int->Option Int->Hp->VK->Prop):Prop:=
 ∀(B:PN) (s:Shared) (G:St) (H:Hp) (x:V) (v h u:Value) (I q:Option Int) (l:Addr) (Q:VK),Inv X B G H s->RelV x v->s.heap.IsSliceOf l h u .none->IsPart h I->IsPart u q->r x I q H Q ->
  ∃T id,typeLookup (.type T) "__getitem__"=pure (some (.builtin id))/\s.TypeIs v T/\wpAny (model X.prog X.w) X.A (getItem v (.ref l)) (EP X B G Q) X.xe s
theorem BQ.or (h:BQ X r) (h':BQ X N):BQ X (fun x I q H Q=>r x I q H Q\/N x I q H Q):=by
 intro B s G H x v f b I q l Q a k n p u e;rcases e with e | e
 .exact h B s G H x v f b I q l Q a k n p u e
 .exact h' B s G H x v f b I q l Q a k n p u e
noncomputable def KS (r:V->Option Int->Option Int->Hp->VK->Prop) (te:TE) (tl th:TO):TE:=fun G H Q=>te G H fun x U=>tl G U fun l H2=>th G H2 fun u h=>r x l u h Q
theorem yx (o:BQ X r) (i:PE X e te) (y:PO X I tl) (F:PO X q th):PE X (.Subscript e (.Slice I q none p2) O) (KS r te tl th):=by
 intro B s G H Q a h;refine Subscript_ (cC (i B s G H _ a h) fun v J z=>?_);obtain⟨x,U,t,E,A⟩:=z;refine wpAny_Slice (cC (y B J G U _ t A) fun f L ⟨l,H2,p,K,C⟩=>cC (F B L G H2 _ p C) fun c k z=>?_);obtain⟨u,m,d,P,D⟩:=z;rw [evalPart_none];refine wpAny_pure ?_;have w:Inv X B G m { k with heap:=k.heap.push { cls:=.type "slice",data:=.fields #[f,c,.none] } }:=d.kept (t':=k.toks) fun b M n=>Heap.get?_push_of_some _ n
 obtain⟨T,id,g,S,j⟩:=o B { k with heap:=k.heap.push { cls:=.type "slice",data:=.fields #[f,c,.none] } } G m x v f c l u k.heap.objs.size Q w E (Heap.IsSliceOf.new ..) K P D;show wpAny (model X.prog X.w) X.A (subscriptTail e (.Slice I q none p2) v (.ref k.heap.objs.size)) (EP X B G Q) X.xe { k with heap:=k.heap.push { cls:=.type "slice",data:=.fields #[f,c,.none] } };exact tail_any (ops:=[.ref k.heap.objs.size,v]) S g j (by with_unfolding_all rfl)
noncomputable def tR (xs:List V) (I q:Option Int):List V:=(xs.drop (HT.d4 xs.length 0 I)).take (HT.d4 xs.length xs.length q-HT.d4 xs.length 0 I)
theorem lX (xs:List V) (I q:Option Int):(tR xs I q).length≤xs.length:=by unfold tR;rw [ib,p9];lia
noncomputable def Jp (K:FG):V->Option Int->Option Int->Hp->VK->Prop:=fun x I q H Q=>∃a xs,x=.ref a/\mP K H a xs /\
 ¬(HT.d4 xs.length 0 I=0/\HT.d4 xs.length xs.length q=xs.length)/\∀p,H p=none->Q (.ref p) (cf H p (.tup (tR xs I q)))
theorem CV:BQ X (Jp X.K):=by
 intro B s G H x v w g I q d Q e c k p u h;obtain⟨a,xs,rfl,f,hw,n⟩:=h;cases c;obtain⟨i,r,t,z⟩:=e.tuple f;have l:i.toArray.size=xs.length:=by rw [List.size_toArray];exact r.length.symm
 refine⟨"tuple",_,jU.lookup,t.typeIs,?_⟩;refine HT.kC t k p u (by rw [l];exact hw) ?_ (by rw [l];exact z);rw [l];refine⟨.ref s.heap.objs.size,_,e.laid (t':=s.toks) (o:=.tup (tR xs I q)) (fun b m n=>Heap.get?_push_of_some _ n) (Nat.le_refl _) ?_,rfl,n _ (e.hok.fresh (Nat.le_refl _))⟩;exact⟨aQ (lX xs I q) z,_,(r.drop (HT.d4 xs.length 0 I)).take (HT.d4 xs.length xs.length q-HT.d4 xs.length 0 I),lK.new _ _⟩
noncomputable def FO (K:FG):R2:=fun x y H Q=>∃a b xs ys,x=.ref a/\y=.ref b/\mP K H a xs/\mP K H b ys/\xs≠[]/\xs.length+ys.length≤sizeLine /\
 (ys=[]->Q (.ref a) H)/\(ys≠[]->∀p,H p=none->Q (.ref p) (cf H p (.tup (xs++ys))))
theorem aI.nil_iff (r:aI xs Y):Y=[]↔xs=[]:=by
 cases r with
 | nil=>simp
 | cons _ _=>simp
theorem A5:g9 X (binaryOp .Add) (FO X.K):=by intro B s G H x y v u Q I g j h;obtain⟨a,b,xs,ys,rfl,rfl,k,f,c,n,m,d⟩:=h;cases g;cases j;obtain⟨t,e,p,_⟩:=I.tuple k;obtain⟨i,r,p2,_⟩:=I.tuple f;refine HT.BE p p2 (fun z=>c (e.nil_iff.mp z)) (fun z=>⟨.ref a,H,I,rfl,m (r.nil_iff.mp z)⟩) (fun z=>?_) (by rw [<- e.length,<- r.length];exact n);refine⟨.ref s.heap.objs.size,_,I.laid (t':=s.toks) (o:=.tup (xs++ys)) (fun b l q=>Heap.get?_push_of_some _ q) (Nat.le_refl _) ?_,rfl,d (fun w=>z (r.nil_iff.mpr w)) _ (I.hok.fresh (Nat.le_refl _))⟩;exact⟨by rw [cV];exact n,_,e.append r,lK.new _ _⟩
end
noncomputable def xc (n:Nat) (i:Int):Option Nat:=if 0≤i then (if i < n then some i.toNat else none) else if -(n:Int)≤i then some (i+n).toNat else none
variable {α:Type}
noncomputable def atI (xs:List α) (i:Int):Option α:=(xc xs.length i).bind fun j=>xs[j]?
variable {n:Nat}
theorem vZ {i:Int} (h:xc n i=some N):seqIndex? i n=some N/\N < n/\-(n:Int)≤i/\i < n:=by
 unfold xc at h;by_cases x:0≤i
 .rw [if_pos x] at h;by_cases J:i < n
  .rw [if_pos J] at h;have e:i.toNat=N:=Option.some.inj h;exact⟨by rw [seqIndex_of x J,e],by lia,by lia,J⟩
  .rw [if_neg J] at h;cases h
 .rw [if_neg x] at h;by_cases J:-(n:Int)≤i
  .rw [if_pos J] at h;have e:(i+n).toNat=N:=Option.some.inj h;exact⟨by rw [seqIndex_neg (by lia) J,e],by lia,J,by lia⟩
  .rw [if_neg J] at h;cases h
theorem rO {i:Int} (h:atI xs i=some v):∃j,seqIndex? i xs.length=some j/\xs[j]? = some v/\j < xs.length/\-(xs.length:Int)≤i/\i < xs.length:=by
 unfold atI at h;cases e:xc xs.length i with
 | none=>rw [e] at h;cases h
 | some j=>rw [e] at h;obtain⟨J,h2,x,a⟩:=vZ e;exact⟨j,J,h,h2,x,a⟩
theorem atI_last (xs:List α) (v:α):atI (xs++[v]) (-1)=some v:=by
 have h:(xs++[v]).length=xs.length+1:=by simp
 have e:xc (xs++[v]).length (-1)=some xs.length:=by unfold xc;rw [h,if_neg (by decide),if_pos (by lia)];congr 1;lia
 unfold atI;rw [e];show (xs++[v])[xs.length]? = some v;simp
noncomputable def kQ (b:Expr):Prop:=∀o i,subscripted b false o i=operate [o,i] (getItem o i)
noncomputable def Ad (X:Cx) (r:R2):Prop:=
 ∀(value l:Expr) (B:PN) (s:Shared) (G:St) (H:Hp) (x y:V) (v u:Value) (Q:VK),Inv X B G H s->RelV x v->RelV y u->r x y H Q ->
  subscripted l false v u=operate [v,u] (getItem v u)->wpAny (model X.prog X.w) X.A (subscriptTail value l v u) (EP X B G Q) X.xe s
noncomputable def LB (X:Cx) (id:String) (r:V->List V->Hp->VK->Prop):Prop:=
 ∀(B:PN) (s:Shared) (G:St) (H:Hp) (x:V) (xs:List V) (v:Value) (Y:LV) (Q:VK),Inv X B G H s->RelV x v->aI xs Y->r x xs H Q ->
  wpAny (model X.prog X.w) X.A (call (.builtin id) (v::Y)) (EP X B G Q) X.xe s
section
variable {X:Cx}{a b:Expr}{ta tb:TE}{O:Pos}
theorem Ad.or (h:Ad X r) (h':Ad X N):Ad X (fun x y H Q=>r x y H Q\/N x y H Q):=by
 intro value l B s G H x y v u Q I e n q a;rcases q with q | q
 .exact h value l B s G H x y v u Q I e n q a
 .exact h' value l B s G H x y v u Q I e n q a
theorem yA (f:Ad X r) (n:PE X a ta) (k:PE X b tb) (c:kQ b):PE X (.Subscript a b O) (CM r ta tb):=by intro B s G H Q I h;exact Subscript_ (Eh n k I h fun v u p x y H2 e m t q=>f a b B p G H2 x y v u Q e m t q (c _ _))
noncomputable def Ju (K:FG):R2:=fun x y H Q=>∃p xs i v,x=.ref p/\y=.int i/\gL K H p xs/\atI xs i=some v/\Q v H
noncomputable def Js (K:FG):R2:=fun x y H Q=>∃p xs i v,x=.ref p/\y=.int i/\mP K H p xs/\atI xs i=some v/\Q v H
noncomputable def Jt:R2:=fun x y H Q=>∃z i c,x=.str z/\y=.int i/\z.length≤sizeLine/\atI z.cps.toList i=some c/\Q (.str ⟨#[c]⟩) H
theorem qH:Ad X (Ju X.K):=by
 intro value c B s G H x y v u Q I P A h d;obtain⟨p,xs,i,a,rfl,rfl,K,S,q⟩:=h;cases P;obtain⟨t,rfl⟩:=A;obtain⟨n,r,l,E⟩:=I.list K;obtain⟨j,J,h2,C,g,o⟩:=rO S;obtain⟨w,b,k⟩:=r.get h2;have F:=r.length;have D:=i7;have f:EP X B G Q w s:=⟨a,H,I,k,q⟩;by_cases m:0≤i
 .have e:i.toNat=j:=by
   rw [seqIndex_of m o] at J;exact Option.some.inj J
  exact item_listR l.isList m (by lia) (by rw [e];simpa using b) f d
 .have e:(i+(n.toArray.size:Int)).toNat=j:=by
   rw [seqIndex_neg (by lia) g] at J;rw [List.size_toArray,<- F];exact Option.some.inj J
  exact subscriptTail_builtinR (x:=w) l.isList.typeIs slot_list_getitem.lookup
   (wpAny_getItem_list_neg (Q:=fun r z=>r=w/\EP X B G Q r z) l.isList (by lia) (by rw [List.size_toArray] <;> lia) (by lia) (by rw [e];simpa using b) ⟨rfl,f⟩) d
theorem DY:Ad X (Js X.K):=by
 intro value l B s G H x y v u Q I o S h d;obtain⟨p,xs,i,a,rfl,rfl,m,b,q⟩:=h;cases o;obtain⟨t,rfl⟩:=S;obtain⟨g,r,n,C⟩:=I.tuple m;obtain⟨j,J,h2,F,K,P⟩:=rO b;obtain⟨w,k,e⟩:=r.get h2;have c:=r.length;have A:=i7;have f:EP X B G Q w s:=⟨a,H,I,e,q⟩;exact subscriptTail_builtinR (x:=w) n.typeIs jU.lookup
  (getItem_tuple (j:=j) (Q:=fun r z=>r=w/\EP X B G Q r z) n (by lia) (by lia) (by rw [List.size_toArray,<- c];exact J) (by simpa using k) ⟨rfl,f⟩) d
theorem DZ:Ad X Jt:=by
 intro value l B s G H x y v u Q I r p h m;obtain⟨z,i,c,rfl,rfl,g,f,q⟩:=h;obtain⟨t,rfl⟩:=r;obtain⟨o,rfl⟩:=p;obtain⟨j,J,h2,d,n,k⟩:=rO f;have b:z.cps.toList.length=z.length:=by simp [Str.length]
 rw [b] at J n k;have w:=i7;exact tail_any (typeIs_str s z t) slot_str_getitem.lookup (getItem_str (c:=c) (by have e:decide (i < -(2 ^ 63:Int))=false:=bv (by lia);have a:decide (i ≥ 2 ^ 63)=false:=bv (by lia);rw [e,a,Bool.or_false]) (by rw [J];simpa using h2) ⟨.str ⟨#[c]⟩,H,I.tok _,⟨_,rfl⟩,q⟩) m
theorem uI (i:LV) (n j:Nat) (u:Value):Obj.mapSeq (·.setIfInBounds j u) { cls:=.type "list",data:=.seq i.toArray n }={ cls:=.type "list",data:=.seq (i.set j u).toArray n }:=by simp [Obj.mapSeq]
theorem Inv.lst (I:Inv X B G H s) (h:H p=some (.lst xs)) :
  ∃(i:LV) (n:Nat),aI xs i/\s.heap.get? p=some { cls:=.type "list",data:=.seq i.toArray n }/\xs.length≤sizeLine:=by
 obtain⟨z,i,n,r,e⟩:=I.hok p _ h;exact⟨i,n,r,e,z⟩
theorem Inv.lstUpd {i:LV} (I:Inv X B G H s) (h:H p=some (.lst xs))
  (o:s.heap.get? p=some { cls:=.type "list",data:=.seq i.toArray n }) (a:f { cls:=.type "list",data:=.seq i.toArray n }={ cls:=.type "list",data:=.seq N.toArray n' }) (r:aI ys N) (z:ys.length≤sizeLine) (t:Nat) :
  Inv X B G (cf H p (.lst ys)) { s with heap:=s.heap.update p f,toks:=t }:=by
 have e:(s.heap.update p f).get? p=some { cls:=.type "list",data:=.seq N.toArray n' }:=by rw [qc f o (by rw [a] <;> rfl),a]
 refine I.write (x:=p) (e:=p) (by rw [h];trivial) (.inl rfl) (fun b u k q=>(Heap.get?_update_other _ _ (Ne.symm k)).trans q) ⟨_,e⟩ ?_;exact⟨z,N,n',r,e⟩
noncomputable def FN:V->V->V->Hp->(Hp->Prop)->Prop:=fun o i v H Q=>∃p xs k j,o=.ref p/\i=.int k/\H p=some (.lst xs)/\xc xs.length k=some j/\Q (cf H p (.lst (xs.set j v)))
theorem ya:Hk X FN:=by
 intro B s G H o i v P K u Q I y g S h;obtain⟨p,xs,k,j,rfl,rfl,d,w,q⟩:=h;cases y;obtain⟨t,rfl⟩:=g;obtain⟨x,n,r,e,z⟩:=I.lst d;obtain⟨J,h2,c,m⟩:=vZ w;have l:=r.length;have F:=i7;have f:Inv X B G (cf H p (.lst (xs.set j v))) { s with heap:=s.heap.update p (Obj.mapSeq (·.setIfInBounds j u)) }:=
  I.lstUpd d e (uI x n j u) (r.set S j) (by rw [eM];exact z) s.toks
 by_cases b:0≤k
 .have a:k.toNat=j:=by
   rw [seqIndex_of b m] at J;exact Option.some.inj J
  exact PySem.W.ki_setAt e b (by lia) (by rw [List.size_toArray,<- l];exact m) (by rw [a];exact⟨_,f,q⟩)
 .have a:(k+(x.toArray.size:Int)).toNat=j:=by
   rw [seqIndex_neg (by lia) c] at J;rw [List.size_toArray,<- l];exact Option.some.inj J
  exact PySem.W.ki_setBack e (by lia) (by rw [List.size_toArray,<- l];exact c) (by lia) (by rw [a];exact⟨_,f,q⟩)
theorem qo (I q:Option Int) (n:Nat):(sliceBounds I q none n).1=((HT.d4 n 0 I:Nat):Int)/\(sliceBounds I q none n).2.1=((HT.d4 n n q:Nat):Int)/\(sliceBounds I q none n).2.2=1:=by
 refine⟨?_,?_,rfl⟩
 .cases I with
  | none=>simp [sliceBounds,HT.d4]
  | some i=>
   simp only [sliceBounds,HT.d4,Option.getD_none,show (1:Int) > 0 by decide,ik];by_cases h:i < 0
   .simp only [h,ik] <;> lia
   .simp only [h,if_false] <;> lia
 .cases q with
  | none=>simp [sliceBounds,HT.d4]
  | some i=>
   simp only [sliceBounds,HT.d4,Option.getD_none,show (1:Int) > 0 by decide,ik];by_cases h:i < 0
   .simp only [h,ik] <;> lia
   .simp only [h,if_false] <;> lia
theorem om (i:LV) (I q:Option Int):slicePick i.toArray I q none=((i.drop (HT.d4 i.length 0 I)).take (HT.d4 i.length i.length q-HT.d4 i.length 0 I)).toArray:=by obtain⟨J,h2,h⟩:=qo I q i.toArray.size;unfold slicePick;rw [J,h2,h];simp only [sliceRange_one,pick_run,List.size_toArray] <;> rfl
noncomputable def Jq (K:FG):V->Option Int->Option Int->Hp->VK->Prop:=fun x I q H Q=>∃a xs,x=.ref a/\gL K H a xs/\∀p,H p=none->Q (.ref p) (cf H p (.lst (tR xs I q)))
theorem AE:BQ X (Jq X.K):=by intro B s G H x v w g I q d Q e c k p u h;obtain⟨a,xs,rfl,f,n⟩:=h;cases c;obtain⟨i,r,t,z⟩:=e.list f;have l:=r.length;refine⟨"list",_,slot_list_getitem.lookup,t.isList.typeIs,?_⟩;refine wpAny_getItem_list_slice t.isList k p u .none (by simp) ?_ (by rw [List.size_toArray] <;> lia);rw [om,<- l];refine⟨.ref s.heap.objs.size,_,e.laid (t':=s.toks) (o:=.lst (tR xs I q)) (fun b m n=>Heap.get?_push_of_some _ n) (Nat.le_refl _) ?_,rfl,n _ (e.hok.fresh (Nat.le_refl _))⟩;exact⟨aQ (lX xs I q) z,_,0,(r.drop (HT.d4 xs.length 0 I)).take (HT.d4 xs.length xs.length q-HT.d4 xs.length 0 I),Heap.get?_push_size _ rfl⟩
theorem rK:cJ X (.builtin "len") (fun xs H Q=>∃p ys,xs=[.ref p]/\(gL X.K H p ys\/mP X.K H p ys)/\Q (.int ys.length) H):=by
 intro B s G H xs Y Q I r h;obtain⟨p,ys,rfl,x,q⟩:=h;obtain⟨u,rfl,n⟩:=vals1 r;cases n;have k:=i7;rcases x with x | x
 .obtain⟨i,e,a,z⟩:=I.list x;have l:=e.length;exact Calls.call_len_list a.isList (by simp only [List.size_toArray] <;> lia) ⟨.int ys.length,H,I.tok _,⟨s.toks+1,by rw [List.size_toArray,l]⟩,q⟩
 .obtain⟨i,e,a,z⟩:=I.tuple x;have l:=e.length;exact len_tuple a (by simp only [List.size_toArray] <;> lia) ⟨.int ys.length,H,I.tok _,⟨s.toks+1,by rw [List.size_toArray,l]⟩,q⟩
theorem rJ:cJ X (.builtin "len") (fun xs H Q=>∃z,xs=[.str z]/\z.length≤sizeLine/\Q (.int z.length) H):=by intro B s G H xs Y Q I r h;obtain⟨z,rfl,x,q⟩:=h;obtain⟨u,rfl,t,rfl⟩:=vals1 r;have n:=i7;exact len_str (by lia) ⟨.int z.length,H,I.tok _,⟨_,rfl⟩,q⟩
theorem cJ.or (h:cJ X f r) (h':cJ X f N):cJ X f (fun xs H Q=>r xs H Q\/N xs H Q):=by
 intro B s G H xs Y Q I x q;rcases q with q | q
 .exact h B s G H xs Y Q I x q
 .exact h' B s G H xs Y Q I x q
theorem kH:cJ X (.type "list") (fun xs H Q=>∃p ys,xs=[.ref p]/\(gL X.K H p ys\/mP X.K H p ys)/\∀l,H l=none->Q (.ref l) (cf H l (.lst ys))):=by
 intro B s G H xs Y Q I r h;obtain⟨p,ys,rfl,k,q⟩:=h;obtain⟨u,rfl,w⟩:=vals1 r;cases w;have f:∀(i:LV),aI ys i->ys.length≤sizeLine->∀(h':Heap) (c:Nat),(∀b o',s.heap.get? b=some o'->h'.get? b=some o') ->
   h'.get? s.heap.objs.size=some { cls:=.type "list",dict:=none,data:=.seq i.toArray c,slots:=#[] }->EP X B G Q (.ref s.heap.objs.size) { s with heap:=h' }:=fun i x z h' c m e=>
  ⟨.ref s.heap.objs.size,_,I.laid (t':=s.toks) m (Nat.le_refl _) (show cb X.prog X.w _ h' _ (.lst ys) from ⟨z,i,c,x,e⟩),rfl,q _ (I.hok.fresh (Nat.le_refl _))⟩
 rcases k with k | k
 .obtain⟨i,x,d,z⟩:=I.list k;have a:=x.length;obtain⟨o,v,t,n,hd⟩:=d.isList;exact call_list_seq p (.inl rfl) v t hd (fun h' c m e=>f i x z h' c m e) (by simp only [List.size_toArray] <;> lia)
 .obtain⟨i,x,d,z⟩:=I.tuple k;have a:=x.length;obtain⟨o,v,t,n,hd⟩:=d;exact call_list_seq p (.inr rfl) v t hd (fun h' c m e=>f i x z h' c m e) (by simp only [List.size_toArray] <;> lia)
theorem jN:cJ X (.type "tuple") (fun xs H Q=>∃p ys,xs=[.ref p]/\((gL X.K H p ys/\∀l,H l=none->Q (.ref l) (cf H l (.tup ys)))\/(mP X.K H p ys/\Q (.ref p) H))):=by
 intro B s G H xs Y Q I r h;obtain⟨p,ys,rfl,h⟩:=h;obtain⟨u,rfl,t⟩:=vals1 r;cases t;rcases h with ⟨x,q⟩ | ⟨x,q⟩
 .obtain⟨i,n,a,z⟩:=I.list x;have f:=n.length;refine call_tuple_list a.isList (fun h' m=>?_) (by simp only [List.size_toArray] <;> lia);have k:Inv X B G H { s with heap:=h' }:=I.kept (t':=s.toks) m;have c:Inv X B G (cf H h'.objs.size (.tup ys)) { s with heap:=h'.push { cls:=.type "tuple",data:=.seq i.toArray } }:=
   k.laid (t':=s.toks) (fun b o e=>Heap.get?_push_of_some _ e) (Nat.le_refl _) (show cb X.prog X.w _ _ _ (.tup ys) from ⟨z,i,n,lK.new _ _⟩)
  exact⟨.ref h'.objs.size,_,c,rfl,q _ (k.hok.fresh (Nat.le_refl _))⟩
 .obtain⟨i,n,a,z⟩:=I.tuple x;exact call_tuple_same a ⟨.ref p,H,I,rfl,q⟩
noncomputable def J_ (K:FG) (T:String) (x:V) (H:Hp):Prop:=match x with
 | .str _=>T="str"
 | .int _=>T="int"
 | .ref p=>(T="list"/\∃xs,gL K H p xs)\/(T="tuple"/\∃o,K.lookup p=some o/\o.cls=.type "tuple"/\o.dict=none) \/
   (T="dict"/\((∃j,H p=some (.dK j))\/∃j,H p=some (.dT j)))\/(T="set"/\∃S n,H p=some (.set S n))
 | _=>False
theorem CG (I:Inv X B G H s) (r:RelV x v) (ty:J_ X.K T x H) :
  s.TypeIs v T/\∀a,v=.ref a->∃b,s.heap.get? a=some b/\b.dict=none:=by
 cases x with
 | str z=>obtain⟨t,rfl⟩:=r;cases (show T="str" from ty);exact⟨typeIs_str s z t,fun _ e=>nomatch e⟩
 | int i=>obtain⟨t,rfl⟩:=r;cases (show T="int" from ty);exact⟨typeIs_int s i t,fun _ e=>nomatch e⟩
 | ref p=>
  cases r;rcases ty with ⟨rfl,xs,q⟩ | ⟨rfl,o,h,f,hd⟩ | ⟨rfl,h⟩ | ⟨rfl,S,n,h⟩
  .obtain⟨m,_,l,_⟩:=I.list q;refine⟨l.isList.typeIs,fun a e=>?_⟩;cases e;obtain⟨o,n,e,c,hd,_⟩:=l;exact⟨o,e,hd⟩
  .refine⟨⟨o,I.kIn p o h,f⟩,fun a e=>?_⟩;cases e;exact⟨o,I.kIn _ o h,hd⟩
  .have z:∃o,s.heap.get? p=some o/\o.ExactDict:=by
    rcases h with ⟨j,h⟩ | ⟨j,h⟩
    .obtain⟨_,_,_,_,o,_,_,e,ex,_⟩:=I.hok p _ h;exact⟨o,e,ex⟩
    .obtain⟨_,_,_,_,o,_,_,e,ex,_⟩:=I.hok p _ h;exact⟨o,e,ex⟩
   obtain⟨o,e,ex⟩:=z;refine⟨⟨o,e,ex.1⟩,fun a k=>?_⟩;cases k;exact⟨o,e,ex.2.1⟩
  .obtain⟨o,_,_,_,e,ex,_⟩:=I.hok p _ h;refine⟨⟨o,e,ex.1⟩,fun a k=>?_⟩;cases k;exact⟨o,e,ex.2.1⟩
 | _=>exact False.elim ty
noncomputable def K0 (K:FG) (T:String) (r:V->List V->Hp->VK->Prop) (to:TE) (t:TA):TE:=fun G H Q=>to G H fun x U=>J_ K T x U/\t G U fun xs H2=>r x xs H2 Q
variable {o e:Expr}{es:Ab}{to:TE}{t:TA}{name:Str}{apos cpos:Pos}{T id:String}{r:V->List V->Hp->VK->Prop}
theorem B3 (w:PlainAttrs T) (slot:Slot T name id) (y:typeOf (.builtin id)=pure (.type "method_descriptor")) (m:LB X id r) (q:PE X o to) (c:PA X (e::es) t)
  (b:attributeBase o name X.env (eval o X.env)=eval o X.env:=by rfl)
  (f:((backTo cpos (starEach (e::es) X.env)).all (fun x=>!x.1) && (backToKw cpos (keywordEach [] X.env)).all (fun x=>x.1.isSome)
   && decide ((e::es).length+([]:List Keyword).length+(if ([]:List Keyword).isEmpty then 0 else 1) < 30))=true:=by rfl)
  (l:(apos.endLine == cpos.line)=true:=by rfl) (d:starEach (e::es) X.env=(false,eval e X.env)::starEach es X.env:=by rfl) (p:(backTo cpos (starEach es X.env)).any (·.1)=false:=by rfl) :
  PE X (.Call (.Attribute o name apos) (e::es) [] cpos) (K0 X.K T r to t):=by
 intro B s G H Q I h;refine wpAny_Call_method_late b f l rfl (cC (q B s G H _ I h) fun v j z=>?_);obtain⟨x,U,a,n,ty,u⟩:=z;obtain⟨J,h2⟩:=CG a n ty;refine⟨T,id,w,slot,y,J,h2,?_⟩;have A:=c cpos B j G U _ a u;rw [d] at A ⊢;refine Calls.callWith_builtin (by show (false || (backTo cpos (starEach es X.env)).any (·.1))=false;rw [p] <;> rfl) (Calls.evalArgs_plain ?_);exact cC A fun Y S z=>by obtain⟨F,H2,k,i,g⟩:=z;exact m B S G H2 x F v Y Q k n i g
end
noncomputable def Kz (X:Cx) (id:String) (r:V->List V->Hp->VK->Prop):Prop:=
 ∀(B:PN) (s:Shared) (G:St) (H:Hp) (x:V) (xs:List V) (v:Value) (Y:LV) (Q:VK),Inv X B G H s->RelV x v->aI xs Y->r x xs H Q ->
  wpAny (model X.prog X.w) X.A (call (.builtin id) (v::Y)) (EP X B G Q) X.xe s
theorem aI.one:∀{x:V}{Y:LV},aI [x] Y->∃u,Y=[u]/\RelV x u
 | _,_,.cons r .nil=>⟨_,rfl,r⟩
theorem aI.rep (h:aI xs Y):∀k:Nat,aI (List.replicate k xs).flatten (List.replicate k Y).flatten
 | 0=>.nil
 | k+1=>by rw [di,di,gY,gY];exact aI.append h (aI.rep h k)
theorem foldl_rep (i:LV):∀(k:Nat) (a:LV),
  List.foldl (fun x s=>x++s) a.toArray (List.replicate k i.toArray)=(a++(List.replicate k i).flatten).toArray
 | 0,a=>by simp
 | k+1,a=>by
  have e:a.toArray++i.toArray=(a++i).toArray:=by simp
  have h:(a++i)++(List.replicate k i).flatten=a++(List.replicate (k+1) i).flatten:=by rw [di,gY,List.append_assoc]
  rw [<- h,<- foldl_rep i k (a++i),<- e,di,gw]
section
variable {X:Cx}{B:PN}{G:St}{H:Hp}{s:Shared}{l b:Addr}{xs ys zs:List V}
theorem Inv.lset {i:LV}{t:Nat} (I:Inv X B G H s) (h:H l=some (.lst xs))
  (e:s.heap.get? l=some { cls:=.type "list",data:=.seq i.toArray n }) (a:f i.toArray=N.toArray) (v:aI ys N) (z:ys.length≤sizeLine) :
  Inv X B G (cf H l (.lst ys)) { s with heap:=s.heap.update l (Obj.mapSeq f),toks:=t }:=by
 have q:=PySem.IsL.update e f;rw [a] at q;refine I.write (x:=l) (e:=l) (by rw [h];exact trivial) (.inl rfl) (fun c u b k=>(Heap.get?_update_other s.heap (Obj.mapSeq f) (Ne.symm b)).trans k) ⟨_,q⟩ ?_;exact⟨z,N,_,v,q⟩
theorem Inv.lnew {t:Nat} (I:Inv X B G H s) (h:aI ys N) (z:ys.length≤sizeLine) :
  Inv X B G (cf H s.heap.objs.size (.lst ys)) { s with heap:=s.heap.push { cls:=.type "list",data:=.seq N.toArray },toks:=t }:=
 I.laid (fun _ _ q=>Heap.get?_push_of_some _ q) (Nat.le_refl _) ⟨z,N,0,h,Heap.get?_push_size _ rfl⟩
theorem Inv.fresh (I:Inv X B G H s):H s.heap.objs.size=none:=I.hok.fresh (Nat.le_refl _)
theorem Inv.lstM (I:Inv X B G H s) (h:H l=some (.lst xs)):xs.length≤sizeLine/\∃(i:LV) (n:Nat),aI xs i/\xs.length=i.length/\s.heap.get? l=some { cls:=.type "list",data:=.seq i.toArray n }:=by obtain⟨z,i,n,r,e⟩:=I.hok l _ h;exact⟨z,i,n,r,r.length,e⟩
theorem sC (h:n≤sizeLine):Builtin.List.listTooLong n=false:=by unfold Builtin.List.listTooLong;exact bv (by lia)
end
section
variable {X:Cx}
noncomputable def AL:V->List V->Hp->VK->Prop:=fun x v H Q=>∃l xs y,x=.ref l/\v=[y]/\H l=some (.lst xs)/\xs.length < sizeLine/\Q .non (cf H l (.lst (xs++[y])))
theorem o8:Kz X "list.append" AL:=by intro B s G H x t v Y Q I b f h;obtain⟨l,xs,y,rfl,rfl,a,m,q⟩:=h;cases b;obtain⟨u,rfl,k⟩:=f.one;obtain⟨z,i,n,r,c,e⟩:=I.lstM a;refine call_meets F.slot_list_append ⟨_,e,rfl⟩ F.entry_list_append (F.args_list_append_2 _ _) (PySem.list_append l i.toArray n u (by rw [List.size_toArray];lia)) ⟨e,?_⟩;refine⟨.non,_,I.lset (N:=i++[u]) a e (by simp) (r.append (.cons k .nil)) ?_,rfl,q⟩;rw [cV,List.length_singleton];lia
noncomputable def AK:V->List V->Hp->VK->Prop:=fun x v H Q=>∃l b xs zs,x=.ref l/\v=[.ref b]/\H l=some (.lst xs)/\H b=some (.lst zs)/\xs.length+zs.length≤sizeLine/\Q .non (cf H l (.lst (xs++zs)))
theorem w5:Kz X "list.extend" AK:=by
 intro B s G H x K v Y Q I j g h;obtain⟨l,b,xs,zs,rfl,rfl,k,c,S,q⟩:=h;cases j;obtain⟨u,rfl,w⟩:=g.one;cases w;obtain⟨z,t,n,r,y,e⟩:=I.lstM k;obtain⟨P,i,p,d,m,f⟩:=I.lstM c;have a:t.toArray.size+i.toArray.size≤sizeLine:=by rw [List.size_toArray,List.size_toArray];lia
 have o:¬(!t.toArray.isEmpty && Builtin.List.listTooLong (t.toArray.size+i.toArray.size))=true:=by rw [sC a,Bool.and_false];exact bO
 refine call_meets F.slot_list_extend ⟨_,e,rfl⟩ F.entry_list_extend (F.args_list_extend_2 _ _)
  (AutoSeq1.list_extend_list_list_0 l t.toArray n b i.toArray p o (by rw [List.size_toArray];lia) (by lia)) ⟨e,f,?_⟩
 refine⟨.non,_,I.lset (N:=t++i) k e (by simp) (r.append d) ?_,rfl,q⟩;rw [cV];lia
noncomputable def Jv:R2:=fun x y H Q=>∃l b xs zs,x=.ref l/\y=.ref b/\H l=some (.lst xs)/\H b=some (.lst zs)/\xs.length+zs.length≤sizeLine/\∀p,H p=none->Q (.ref p) (cf H p (.lst (xs++zs)))
theorem Ds:g9 X (binaryOp .Add) Jv:=by
 intro B s G H x y v u Q I d w h;obtain⟨l,b,xs,zs,rfl,rfl,c,f,j,q⟩:=h;cases d;cases w;obtain⟨z,t,n,r,g,e⟩:=I.lstM c;obtain⟨S,i,o,p,m,a⟩:=I.lstM f;refine PySem.P.add_list e a ?_ (by rw [List.size_toArray,List.size_toArray];lia);have k:t.toArray++i.toArray=(t++i).toArray:=by simp
 rw [k];exact⟨.ref _,_,I.lnew (t:=s.toks) (r.append p) (by rw [cV];lia),rfl,q _ I.fresh⟩
noncomputable def Jr:R2:=fun x y H Q=>∃l k xs,x=.ref l/\y=.int k/\H l=some (.lst xs)/\-(2 ^ 63)≤k/\k < 2 ^ 63/\xs.length * k.toNat≤sizeLine /\
 ∀p,H p=none->Q (.ref p) (cf H p (.lst (List.replicate k.toNat xs).flatten))
theorem Bc (xs:List α) (k:Nat):(List.replicate k xs).flatten.length=k * xs.length:=by
 induction k with
 | zero=>simp
 | succ k i=>rw [di,gY,cV,i,Nat.succ_mul,Nat.add_comm]
theorem Do:g9 X (binaryOp .Mult) Jr:=by
 intro B s G H x y v u Q I A C h;obtain⟨l,k,xs,rfl,rfl,K,J,h2,j,q⟩:=h;cases A;obtain⟨t,rfl⟩:=C;obtain⟨f,i,n,r,P,e⟩:=I.lstM K;have p:i.toArray.size * k.toNat≤sizeLine:=by rw [List.size_toArray,<- P];exact j
 have c:¬i.toArray.size * k.toNat > (2 ^ 63-1) / 8:=by
  have:(sizeLine:Nat)≤(2 ^ 63-1) / 8:=by decide
  lia
 have b:¬(!Builtin.List.listFitsIndex k)=true:=by rw [fitsIndex_both J h2];exact bO
 have o:¬Builtin.List.listTooLong (i.toArray.size * k.toNat)=true:=by rw [sC p];exact bO
 have w:List.foldl (fun d g=>d++g) #[] (List.replicate (if i.toArray.isEmpty=true then 0 else k.toNat) i.toArray)=(List.replicate k.toNat i).flatten.toArray:=by
  have S:∀m:Nat,List.foldl (fun d g=>d++g) #[] (List.replicate m i.toArray)=(List.replicate m i).flatten.toArray:=fun m=>by have:=foldl_rep i m [];rw [gX] at this;exact this
  rw [S];cases i with
  | nil=>simp
  | cons a D=>rw [if_neg (by simp)]
 refine wpAny_binaryOp_repeat_ref (T:="list") (U:="int") (by decide) ⟨_,e,rfl⟩ (fun z=>typeIs_int z k t) noFill_list_mul F.fills_int_mul F.slot_int_rmul repeat_list F.slot_int_index.lookup
  (call_meets F.slot_int_rmul (typeIs_int s k t) F.entry_int_rmul (F.args_int_rmul_2 _ _) (int___rmul___int_list k t l i.toArray n)
   ⟨e,rfl,⟨_,e,rfl⟩,call_meets F.slot_list_mul ⟨_,e,rfl⟩ F.entry_list_mul (F.args_list_mul_2 _ _) (AutoListH.list___mul___list_int_3 l i.toArray n k t b c o) ⟨e,?_⟩⟩)
 rw [w];exact⟨.ref _,_,I.lnew (t:=s.toks) (r.rep k.toNat) (by rw [Bc,mE];exact j),rfl,q _ I.fresh⟩
end
section
variable {κ:Type} [DecidableEq κ]
noncomputable def fG (j:List (κ×V)) (k:κ):Option V:=(j.find? fun v=>decide (v.1=k)).map (·.2)
noncomputable def putK (j:List (κ×V)) (k:κ) (v:V):List (κ×V):=
 if (j.any fun h=>decide (h.1=k))=true then j.map (fun h=>if h.1=k then (h.1,v) else h) else j++[(k,v)]
noncomputable def Ku (j:List (κ×V)) (k:κ):List (κ×V):=j.filter fun v=>decide (v.1≠k)
theorem gy {p:κ×V}{r:List (κ×V)}{k:κ} (e:p.1=k):fG (p::r) k=some p.2:=by simp [fG,iY,e]
theorem fF {p:κ×V}{r:List (κ×V)}{k:κ} (e:¬p.1=k):fG (p::r) k=fG r k:=by simp [fG,iY,e]
theorem r_ (k:κ):∀j:List (κ×V),(j.any fun v=>decide (v.1=k))=(fG j k).isSome
 | []=>rfl
 | p::r=>by
  rw [e_];by_cases e:p.1=k
  .simp only [gy e,h_ e,Bool.true_or,Option.isSome_some]
  .rw [fF e,bv e,mF];exact r_ k r
theorem i8 (j:List (κ×V)) (k:κ) (v:V):(putK j k v).length≤j.length+1:=by
 unfold putK;split
 .rw [bu];lia
 .rw [cV,bt,List.length_nil];lia
theorem iU.isSome_eq (r:iU o u):o.isSome=u.isSome:=by
 cases o with
 | none=>cases u with
  | none=>rfl
  | some _=>exact (show False from r).elim
 | some _=>cases u with
  | none=>exact (show False from r).elim
  | some _=>rfl
theorem iU.getD (r:iU o u) (h:RelV d N):RelV (o.getD d) (u.getD N):=by
 cases o with
 | none=>cases u with
  | none=>exact h
  | some _=>exact (show False from r).elim
 | some _=>cases u with
  | none=>exact (show False from r).elim
  | some _=>exact r
theorem KV.val {j:List (κ×V)}{v:List (κ×Value)} (r:KV j v) (k:κ):iU (fG j k) (valueAt v k):=by
 unfold KV at r;induction r with
 | nil=>exact True.intro
 | @cons p q ps qs h t i=>
  obtain⟨J,h2⟩:=h;by_cases e:p.1=k
  .have x:q.1=k:=J.symm.trans e;have b:valueAt (q::qs) k=some q.2:=by simp [valueAt,iY,x]
   rw [gy e,b];exact h2
  .have x:¬q.1=k:=fun z=>e (J.trans z);have b:valueAt (q::qs) k=valueAt qs k:=by simp [valueAt,iY,x]
   rw [fF e,b];exact i
theorem KV.any (r:KV j N) (k:κ):(j.any fun v=>decide (v.1=k))=N.any fun v=>decide (v.1=k):=by
 unfold KV at r;induction r with
 | nil=>rfl
 | cons h t i=>rw [e_,e_,i,h.1]
theorem KV.repl (r:KV j N) (k:κ) (x:RelV y u) :
  KV (j.map fun v=>if v.1=k then (v.1,y) else v) (N.map fun v=>if v.1=k then (v.1,u) else v):=by
 unfold KV at r ⊢;induction r with
 | nil=>exact .nil
 | @cons p q ps qs h t i=>
  rw [List.map_cons,List.map_cons];refine .cons ?_ i;obtain⟨J,h2⟩:=h;by_cases e:p.1=k
  .rw [if_pos e,if_pos (J.symm.trans e)];exact⟨J,x⟩
  .rw [if_neg e,if_neg (fun z=>e (J.trans z))];exact⟨J,h2⟩
theorem KV.put (r:KV j N) (k:κ) (h:RelV y u):KV (putK j k y) (stored N k u):=by
 unfold putK stored;rw [r.any k];by_cases e:(N.any fun v=>decide (v.1=k))=true
 .rw [if_pos e,if_pos e];exact r.repl k h
 .rw [if_neg e,if_neg e];exact Paired.snoc r ⟨rfl,h⟩
theorem KV.length (r:KV j N):j.length=N.length:=Paired.length r
end
variable {w:World}{u:Value}
theorem kz (r:RelV (kV k) u):(bJ P w).is k u=true:=by
 cases k with
 | inl i=>obtain⟨t,e⟩:=(show ∃t,u=Value.int i t from r);subst e;exact sI P w i t
 | inr x=>obtain⟨t,e⟩:=(show ∃t,u=Value.str x t from r);subst e;exact sH P w x t
theorem pc:∀{ks:List bC}{Y:LV},aI (ks.map kV) Y->ItemsAre (bJ P w) ks Y
 | [],_,r=>by rw [List.map_nil] at r;cases r;exact .nil
 | k::ks,_,r=>by
  rw [List.map_cons] at r;cases r with
  | cons h t=>exact .cons (kz h) (pc t)
noncomputable abbrev KT (H:Hp):List (List bC×V)->List (List bC×Addr×Value)->Prop:=Paired fun p q=>p.1=q.1/\H q.2.1=some (.tup (p.1.map kV))/\RelV p.2 q.2.2
theorem KT.val {H:Hp}{j:List (List bC×V)}{xs:List (List bC×Addr×Value)} (r:KT H j xs) (k:List bC):iU (fG j k) ((atKey xs k).map (·.2)):=by
 induction r with
 | nil=>exact True.intro
 | @cons p q ps qs h t i=>
  obtain⟨J,_,h2⟩:=h;by_cases e:p.1=k
  .have x:q.1=k:=J.symm.trans e;have b:atKey (q::qs) k=some q.2:=by simp [atKey,iY,x]
   rw [gy e,b];exact h2
  .have x:¬q.1=k:=fun z=>e (J.trans z);have b:atKey (q::qs) k=atKey qs k:=by simp [atKey,iY,x]
   rw [fF e,b];exact i
variable {H:Hp}{j:List (List bC×V)}{xs:List (List bC×Addr×Value)}{y:V}
theorem KT.repl (r:KT H j xs) (k:List bC) (a:RelV y u) :
  KT H (j.map fun v=>if v.1=k then (v.1,y) else v) (xs.map (putAt k u)):=by
 induction r with
 | nil=>exact .nil
 | @cons p q ps qs h t i=>
  rw [List.map_cons,List.map_cons];refine .cons ?_ i;obtain⟨J,h2,x⟩:=h;unfold putAt;by_cases e:p.1=k
  .rw [if_pos e,if_pos (J.symm.trans e)];exact⟨J,h2,a⟩
  .rw [if_neg e,if_neg (fun z=>e (J.trans z))];exact⟨J,h2,x⟩
theorem KT.put (r:KT H j xs) (k:List bC) (x:H b=some (.tup (k.map kV))) (h:RelV y u) :
  KT H (putK j k y) (storedH xs k b u):=by
 have e:(j.any fun v=>decide (v.1=k))=(atKey xs k).isSome:=by rw [r_,(r.val k).isSome_eq,qa]
 unfold putK storedH;rw [e];by_cases q:(atKey xs k).isSome=true
 .rw [if_pos q,if_pos q];exact r.repl k h
 .rw [if_neg q,if_neg q];exact Paired.snoc r ⟨rfl,x,h⟩
theorem KT.keeps (r:KT H j xs) (h:∀b ys,H b=some (.tup ys)->H' b=some (.tup ys)):KT H' j xs:=
 Paired.mapP r fun _ _ z=>⟨z.1,h _ _ z.2.1,z.2.2⟩
section
variable {P:Program}{w:World}{H:Hp}{h:Heap}{a:Addr}
theorem B0 {u:HO} (ok:jH P w H h) (e:Rd H a u):cb P w H h a u:=e.ok ok
theorem nT {j:List (bC×V)} (ok:jH P w H h) (e:Rd H a (.dK j)):j.length≤sizeLine/\(a == sysModules)=false/\∃v,KV j v/\h.DictOf (bJ P w) a v:=
 show cb P w H h a (.dK j) from B0 ok e
theorem wf {j:List (bC×V)} (ok:jH P w H h) (e:H a=some (.dK j)):j.length≤sizeLine/\(a == sysModules)=false/\∃v,KV j v/\h.DictOf (bJ P w) a v:=nT ok (.inl e)
theorem j1 (ok:jH P w H h) (e:H a=some (.tup (ks.map kV))):(tupleKind (bJ P w)).is h ks a:=by obtain⟨_,i,r,o,J,⟨h2,n,x⟩,_⟩:=(show cb P w H h a (.tup (ks.map kV)) from ok a _ e);exact⟨o,i.toArray,n,J,h2,x,by simpa using pc r⟩
theorem nS (ok:jH P w H h) (e:Rd H a (.dT j)):j.length≤sizeLine/\(a == sysModules)=false /\
  ∃xs,KT H j xs/\h.DictOfH (tupleKind (bJ P w)) a xs:=by
 obtain⟨z,y,xs,r,o,es,k,J,h2,f,b,c⟩:=(show cb P w H h a (.dT j) from B0 ok e);refine⟨z,y,xs,r,o,es,k,J,h2,f,b,fun x s=>?_,c⟩;have all:∀{l:List (List bC×V)}{m:List (List bC×Addr×Value)},KT H l m->∀x ∈ m,(tupleKind (bJ P w)).is h x.1 x.2.1:=by
  intro l m q;induction q with
  | nil=>intro x s;exact nomatch s
  | @cons p q ps qs n t i=>
   intro x s;rcases av.mp s with e | s
   .subst e;exact j1 ok (by rw [<- n.1];exact n.2.1)
   .exact i x s
 exact all r x s
theorem G1 (ok:jH P w H h) (e:H a=some (.dT j)):j.length≤sizeLine/\(a == sysModules)=false /\
  ∃xs,KT H j xs/\h.DictOfH (tupleKind (bJ P w)) a xs:=nS ok (.inl e)
end
noncomputable def g_ (H:Hp) (a:Addr) (y:V) (r:Option V):Prop:=
 (∃j k,Rd H a (.dK j)/\y=kV k/\r=fG j k)\/∃j k b,Rd H a (.dT j)/\y=.ref b/\H b=some (.tup (k.map kV))/\r=fG j k
noncomputable def t_ (H:Hp) (a:Addr) (y v:V) (H':Hp):Prop:=
 (∃j k,H a=some (.dK j)/\y=kV k/\j.length < sizeLine/\H'=cf H a (.dK (putK j k v))) \/
 ∃j k b,H a=some (.dT j)/\y=.ref b/\H b=some (.tup (k.map kV))/\j.length < sizeLine/\H'=cf H a (.dT (putK j k v))
theorem g_.k {H:Hp}{a:Addr}{j:List (bC×V)}{k:bC} (e:H a=some (.dK j)):g_ H a (kV k) (fG j k):=.inl ⟨j,k,.inl e,rfl,rfl⟩
theorem g_.t {H:Hp}{a b:Addr}{j:List (List bC×V)}{k:List bC} (e:H a=some (.dT j)) (h:H b=some (.tup (k.map kV))):g_ H a (.ref b) (fG j k):=.inr ⟨j,k,b,.inl e,rfl,h,rfl⟩
theorem t_.k {H:Hp}{a:Addr}{j:List (bC×V)}{k:bC}{v:V} (e:H a=some (.dK j)) (h:j.length < sizeLine):t_ H a (kV k) v (cf H a (.dK (putK j k v))):=.inl ⟨j,k,e,rfl,h,rfl⟩
theorem t_.t {H:Hp}{a b:Addr}{j:List (List bC×V)}{k:List bC}{v:V} (e:H a=some (.dT j)) (h:H b=some (.tup (k.map kV))) (l:j.length < sizeLine) :
  t_ H a (.ref b) v (cf H a (.dT (putK j k v))):=.inr ⟨j,k,b,e,rfl,h,l,rfl⟩
section
variable {X:Cx}{B:PN}{G:St}{H:Hp}{s:Shared}{a:Addr}{y v:V}{u r:Value}{o:Option V}{A:Around}{E:VP}
theorem Inv.big (I:Inv X B G H s):sysModules < s.heap.objs.size:=by have h:mainGlobals < s.heap.objs.size:=(I.mod.glob.keeps I.bk).lt;exact kT (by decide) h
theorem ph (i:A.units+1 < cLine) (I:Inv X B G H s) (g:g_ H a y (some v)) (m:RelV y u) (h:∀n z,Inv X B G H z->RelV v n->Q n z) :
  wpAny (model X.prog X.w) A (getItem (.ref a) u) Q E s:=by
 rcases g with ⟨j,k,e,f,l⟩ | ⟨j,k,b,e,f,t,l⟩
 .subst f;obtain⟨x,hd,S,r,d⟩:=nT I.hok e;obtain⟨n,hw,w⟩:=iU.some_of (v:=v) (o:=valueAt S k) (by rw [l];exact r.val k);exact wpAny_getItem_of (kz m) d.mapOf hw (h n _ (I.tok _) w)
 .subst f;cases (show u=Value.ref b from m);obtain⟨x,hd,xs,r,d⟩:=nS I.hok e;obtain⟨n,hw,w⟩:=iU.some_of (v:=v) (o:=(atKey xs k).map (·.2)) (by rw [l];exact r.val k);obtain⟨p,q,c⟩:=ig.mp hw;refine wpAny_getItem_heap (kW i) (j1 I.hok t) d q ?_;rw [c];exact h n _ (I.tok _) w
theorem JS (m:A.units+1 < cLine) (I:Inv X B G H s) (g:g_ H a y o) (f:RelV y u) (h:∀z,Inv X B G H z->Q (.bool o.isSome) z) :
  wpAny (model X.prog X.w) A (compareOp .In u (.ref a)) Q E s:=by
 rcases g with ⟨j,k,e,n,l⟩ | ⟨j,k,b,e,n,c,l⟩
 .subst n;obtain⟨x,hd,v,r,d⟩:=nT I.hok e;refine wpAny_in_of (kz f) hd d.mapOf ?_;rw [<- (r.val k).isSome_eq,<- l];exact h _ (I.tok _)
 .subst n;cases (show u=Value.ref b from f);obtain⟨x,hd,xs,r,d⟩:=nS I.hok e;refine wpAny_in_heap (kW m) (j1 I.hok c) hd d ?_;have q:=(r.val k).isSome_eq;rw [qa] at q;rw [<- q,<- l];exact h _ (I.tok _)
theorem Bx (m:A.units+1 < cLine) (I:Inv X B G H s) (g:g_ H a y o) (f:RelV y u) (h:∀z,Inv X B G H z->Q (.bool (!o.isSome)) z) :
  wpAny (model X.prog X.w) A (compareOp .NotIn u (.ref a)) Q E s:=by
 rcases g with ⟨j,k,e,n,l⟩ | ⟨j,k,b,e,n,c,l⟩
 .subst n;obtain⟨x,hd,v,r,d⟩:=nT I.hok e;refine wpAny_notIn_of (kz f) hd d.mapOf ?_;rw [<- (r.val k).isSome_eq,<- l];exact h _ (I.tok _)
 .subst n;cases (show u=Value.ref b from f);obtain⟨x,hd,xs,r,d⟩:=nS I.hok e;refine wpAny_notIn_heap (kW m) (j1 I.hok c) hd d ?_;have q:=(r.val k).isSome_eq;rw [qa] at q;rw [<- q,<- l];exact h _ (I.tok _)
theorem qX {t:Nat} (I:Inv X B G H s) (m:Hn (H a)) (f:Heap.SameBut a s.heap h') (k:∃q,h'.get? a=some q) (n:cb X.prog X.w (cf H a N) h' a N) :
  Inv X B G (cf H a N) { s with heap:=h',toks:=t }:=
 I.write (x:=a) (e:=a) m (.inl rfl) (fun b q h z=>(f.2 b h).trans z) k n
theorem zK {P:Program}{w:World}{H':Hp}{h':Heap}{j:List (bC×V)}{v:List (bC×Value)} (z:j.length≤sizeLine) (hd:(a == sysModules)=false) (r:KV j v) (d:h'.DictOf (bJ P w) a v) :
  cb P w H' h' a (.dK j):=⟨z,hd,v,r,d⟩
theorem xw {H':Hp}{Q:Unit->Shared->Prop} (N:A.units+1 < cLine) (I:Inv X B G H s) (g:t_ H a y v H') (P:RelV y u) (K:RelV v r) (h:∀z,Inv X B G H' z->Q () z) :
  wpAny (model X.prog X.w) A (setItem (.ref a) u r) Q E s:=by
 rcases g with ⟨j,k,e,p,l,t⟩ | ⟨j,k,b,e,p,S,l,t⟩
 .subst p t;obtain⟨x,hd,O,n,m⟩:=wf I.hok e;have o:O.length≤sizeLine:=by rw [<- n.length];exact x
  have w:(putK j k v).length≤sizeLine:=by have:=i8 j k v;lia
  refine wpAny_setItem_pairs (hsz:=o) (kz P) m fun h' d i=>h _ ?_;have M:∃q,h'.get? a=some q:=let ⟨q,_,_,f,_⟩:=d;⟨q,f⟩
  exact qX I (by rw [e];exact True.intro) i M (zK w hd (n.put k K) d)
 .subst p t;cases (show u=Value.ref b from P);obtain⟨x,hd,xs,n,m⟩:=G1 I.hok e;have o:xs.length≤sizeLine:=by rw [<- Paired.length n];exact x
  have w:(putK j k v).length≤sizeLine:=by have:=i8 j k v;lia
  refine wpAny_setItem_heap (hsz:=o) (kW N) (j1 I.hok S) m fun h' d i=>h _ ?_;obtain⟨q,es,C,f,h2,D,J,_,L⟩:=d;refine qX I (by rw [e];exact True.intro) i ⟨q,f⟩ ⟨w,hd,_,(n.put k S K).keeps fun c ys F=>?_,q,es,C,f,h2,D,J,L⟩;rw [az (Gh F e (fun x=>nomatch x))];exact F
end
noncomputable def FM (td ty tv:TE):TS:=fun D G H=>tv G H fun v U=>td G U fun x H2=>ty G H2 fun y e=>∃a h,x=.ref a/\t_ e a y v h/\D.nx G h
section
variable {X:Cx}{o i e value:Expr}{O pos' tpos:Pos}{td ty tv:TE}
theorem vM (t:X.A.units+1 < cLine) (c:PE X o td) (q:PE X i ty) (p:PE X value tv) (m:swapsWith value (some (.Subscript o i pos')) O.line X.env=pure false) :
  PS X (.Assign [.Subscript o i pos'] value O) (FM td ty tv):=by
 intro B s G H D I h;refine wpAny_Assign_Subscript (cC (p B s G H _ I h) fun r K ⟨v,U,n,l,d⟩=>cC (c B K G U _ n d) fun u P ⟨x,H2,k,S,w⟩=>cC (q B P G H2 _ k w) fun C E z=>?_) m;obtain⟨y,A,f,F,a,e,ex,g,j⟩:=z;subst ex;obtain rfl:u=Value.ref a:=S;exact xw t f g F l fun J b=>⟨G,e,b,j⟩
end
theorem zL (h:Heap) (b:sysModules < h.objs.size):cb P w H (h.push { cls:=.type "dict",data:=.dict #[] }) h.objs.size (.dK []):=
 ⟨Nat.zero_le _,jZ.mpr (Ne.symm (bX b)),[],.nil,Heap.DictOf.new h⟩
theorem zJ (h:Heap) (b:sysModules < h.objs.size):cb P w H (h.push { cls:=.type "dict",data:=.dict #[] }) h.objs.size (.dT []):=
 ⟨Nat.zero_le _,jZ.mpr (Ne.symm (bX b)),[],.nil,_,#[],0,Heap.get?_push_size _ rfl,⟨rfl,rfl,rfl⟩,rfl,rfl,List.nodup_nil⟩
noncomputable def CP:TE:=fun _ H Q=>∀p,H p=none->Q (.ref p) (cf H p (.dK []))
noncomputable def CO:TE:=fun _ H Q=>∀p,H p=none->Q (.ref p) (cf H p (.dT []))
section
variable {X:Cx}{O:Pos}
theorem yD:PE X (.Dict [] [] O) CP:=fun B s G H Q I h=>
 wpAny_Dict_empty ⟨.ref s.heap.objs.size,_,I.laid (a:=s.heap.objs.size) (o:=.dK []) (t':=s.toks) (fun _ _ q=>Heap.get?_push_of_some _ q) (Nat.le_refl _) (zL s.heap I.big),rfl,h _ (I.hok.fresh (Nat.le_refl _))⟩
theorem yC:PE X (.Dict [] [] O) CO:=fun B s G H Q I h=>
 wpAny_Dict_empty ⟨.ref s.heap.objs.size,_,I.laid (a:=s.heap.objs.size) (o:=.dT []) (t':=s.toks) (fun _ _ q=>Heap.get?_push_of_some _ q) (Nat.le_refl _) (zJ s.heap I.big),rfl,h _ (I.hok.fresh (Nat.le_refl _))⟩
end
noncomputable abbrev VV:List (V×V)->List (Value×Value)->Prop:=Paired fun p q=>RelV p.1 q.1/\RelV p.2 q.2
structure M1 (X:Cx) (o:Expr) (m:Str) (apos:Pos) (e:Expr) (cpos:Pos):Prop where
 base:attributeBase o m X.env (eval o X.env)=eval o X.env
 few:((backTo cpos (starEach [e] X.env)).all (fun x=>!x.1) && (backToKw cpos (keywordEach [] X.env)).all (fun x=>x.1.isSome)
  && decide (([e]:Ab).length+([]:List Keyword).length+(if ([]:List Keyword).isEmpty then 0 else 1) < 30))=true
 line:(apos.endLine == cpos.line)=true
 trees:backTo cpos (starEach [e] X.env)=[(false,eval e X.env)]
structure M2 (X:Cx) (o:Expr) (m:Str) (apos:Pos) (e f:Expr) (cpos:Pos):Prop where
 base:attributeBase o m X.env (eval o X.env)=eval o X.env
 few:((backTo cpos (starEach [e,f] X.env)).all (fun x=>!x.1) && (backToKw cpos (keywordEach [] X.env)).all (fun x=>x.1.isSome)
  && decide (([e,f]:Ab).length+([]:List Keyword).length+(if ([]:List Keyword).isEmpty then 0 else 1) < 30))=true
 line:(apos.endLine == cpos.line)=true
 trees:backTo cpos (starEach [e,f] X.env)=[(false,eval e X.env),(false,eval f X.env)]
noncomputable def J5 (H:Hp) (a:Addr):Prop:=(∃j,Rd H a (.dK j))\/∃j,Rd H a (.dT j)
variable {B:PN}{G:St}{s:Shared}
theorem uQ (I:Inv X B G H s) (d:J5 H a) :
  s.TypeIs (.ref a) "dict"/\(∀b,Value.ref a=.ref b->∃o,s.heap.get? b=some o/\o.dict=none)/\(a == sysModules)=false:=by
 rcases d with ⟨j,e⟩ | ⟨j,e⟩
 .obtain⟨_,hd,v,_,h⟩:=nT I.hok e;refine⟨h.typeIs,fun b q=>?_,hd⟩;cases q;obtain⟨o,_,_,J,h2,_⟩:=h;exact⟨o,J,h2.2.1⟩
 .obtain⟨_,hd,xs,_,h⟩:=nS I.hok e;refine⟨h.typeIs,fun b q=>?_,hd⟩;cases q;obtain⟨o,_,_,J,h2,_⟩:=h;exact⟨o,J,h2.2.1⟩
section
variable {X:Cx}{B:PN}{G:St}{H:Hp}{s:Shared}{a:Addr}{y d:V}{u r:Value}{o:Option V}{A:Around}{E:VP}
theorem Ea (m:A.units+1 < cLine) (I:Inv X B G H s) (g:g_ H a y o) (f:RelV y u) (h:∀w z,Inv X B G H z->RelV (o.getD .non) w->Q w z) :
  wpAny (model X.prog X.w) A (call (.builtin "dict.get") [.ref a,u]) Q E s:=by
 rcases g with ⟨j,k,e,n,l⟩ | ⟨j,k,b,e,n,c,l⟩
 .subst n;obtain⟨x,hd,v,r,d⟩:=nT I.hok e;refine kg la d.typeIs pW (PySem.F.args_dict_get_2 _ _) (meets_dict_get (bJ X.prog X.w) a (kz f) hd) ⟨_,d.mapOf,h _ _ (I.tok _) ?_⟩;rw [l];exact (r.val k).getD rfl
 .subst n;cases (show u=Value.ref b from f);obtain⟨x,hd,xs,r,d⟩:=nS I.hok e;refine kg la d.typeIs pW (PySem.F.args_dict_get_2 _ _) (meetsH_dict_get (tupleKind (bJ X.prog X.w)) a b hd) ⟨kW m,k,xs,j1 I.hok c,d,h _ _ (I.tok _) ?_⟩;rw [l];exact (r.val k).getD rfl
theorem D' (q:A.units+1 < cLine) (I:Inv X B G H s) (g:g_ H a y o) (t:RelV y u) (m:RelV d r) (h:∀w z,Inv X B G H z->RelV (o.getD d) w->Q w z) :
  wpAny (model X.prog X.w) A (call (.builtin "dict.get") [.ref a,u,r]) Q E s:=by
 rcases g with ⟨j,k,e,c,l⟩ | ⟨j,k,b,e,c,p,l⟩
 .subst c;obtain⟨x,hd,v,n,f⟩:=nT I.hok e;refine kg la f.typeIs pW (PySem.F.args_dict_get_3 _ _ _) (meets_dict_get_default (bJ X.prog X.w) a (kz t) hd r) ⟨_,f.mapOf,h _ _ (I.tok _) ?_⟩;rw [l];exact (n.val k).getD m
 .subst c;cases (show u=Value.ref b from t);obtain⟨x,hd,xs,n,f⟩:=nS I.hok e;refine kg la f.typeIs pW (PySem.F.args_dict_get_3 _ _ _) (meetsH_dict_get_default (tupleKind (bJ X.prog X.w)) a b hd r) ⟨kW q,k,xs,j1 I.hok p,f,h _ _ (I.tok _) ?_⟩;rw [l];exact (n.val k).getD m
end
noncomputable def CS (td ty:TE):TE:=fun G H Q=>td G H fun x U=>∃a,x=.ref a/\J5 U a/\ty G U fun y H2=>∃o,g_ H2 a y o/\Q (o.getD .non) H2
noncomputable def CQ (td ty tx:TE):TE:=fun G H Q=>td G H fun x U=>∃a,x=.ref a/\J5 U a/\ty G U fun y H2=>tx G H2 fun z h=>∃o,g_ h a y o/\Q (o.getD z) h
section
variable {X:Cx}{o e f:Expr}{apos cpos:Pos}{td ty tx:TE}
theorem yF (t:X.A.units+1 < cLine) (c:PE X o td) (b:PE X e ty) (m:M1 X o "get" apos e cpos):PE X (.Call (.Attribute o "get" apos) [e] [] cpos) (CS td ty):=by intro B s G H Q I h;refine wpAny_Call_method m.base m.few m.line ug la PySem.F.type_dict_get (cC (c B s G H _ I h) fun u i z=>?_);obtain⟨x,U,n,v,a,ex,d,q⟩:=z;subst ex;obtain rfl:u=Value.ref a:=v;obtain⟨j,l,_⟩:=uQ n d;refine⟨j,l,?_⟩;rw [m.trees];refine Calls.callWith_builtin rfl (Calls.evalArgs_plain (Calls.spliced_cons (cC (b B i G U _ n q) fun S K ⟨y,H2,k,w,F,g,p⟩=>jX ?_)));exact Ea t k g w fun A P f r=>⟨_,H2,f,r,p⟩
theorem yE (w:X.A.units+1 < cLine) (v:PE X o td) (p:PE X e ty) (q:PE X f tx) (m:M2 X o "get" apos e f cpos):PE X (.Call (.Attribute o "get" apos) [e,f] [] cpos) (CQ td ty tx):=by
 intro B s G H Q I h;refine wpAny_Call_method m.base m.few m.line ug la PySem.F.type_dict_get (cC (v B s G H _ I h) fun u A i=>?_);obtain⟨x,U,n,F,a,ex,d,j⟩:=i;subst ex;obtain rfl:u=Value.ref a:=F;obtain⟨D,E,_⟩:=uQ n d;refine⟨D,E,?_⟩;rw [m.trees];refine Calls.callWith_builtin rfl (Calls.evalArgs_plain (Calls.spliced_cons (cC (p B A G U _ n j) fun L C ⟨y,H2,b,K,l⟩=>
  Calls.spliced_cons (cC (q B C G H2 _ b l) fun J N ⟨z,k,c,P,M,g,S⟩=>jX ?_))))
 exact D' w c g K P fun R O t r=>⟨_,k,t,r,S⟩
end
end L2
namespace Att
open PySem PySem.W PySem.Calls PyProof.Rows
theorem mh:∀(s:List Int) (v:LV),WellAll P h v (s.map WData.int)->IntsAre v s:=by
 intro s;induction s with
 | nil=>intro v w;rw [List.map_nil] at w;cases w;exact .nil
 | cons n s i=>
  intro v w;rw [List.map_cons] at w;cases w with
  | cons a b=>cases a;exact .cons _ _ (i _ b)
theorem wQ {l:OpenLaw} (t:l.most=some n)
  (p:l.row.toRowW.claim.pre N=true) (w:WellAll P h vals N) :
  ∃a v s,vals=[Value.ref a]/\N=[WData.list (s.map WData.int)]/\h.get? a=some { cls:=.type "list",data:=.seq v.toArray }/\IntsAre v s/\s.length≤n:=by
 have b:WShape.hasAll [] N [.list .int]=true:=(pre_splitW p).1;have c:l.pre.holds [] { args:=N }=true:=(pre_splitW p).2;obtain⟨d,r,rfl,J,h2⟩:=hasAllW_cons b;obtain rfl:=hasAllW_nil h2;obtain⟨xs,rfl,m⟩:=hasW_list J;obtain⟨s,rfl⟩:=items_int m;have e:s.length≤n:=by
  unfold OpenLaw.pre at c;have k:(WTm.not (.lt (.lit (.int (n:Int))) (.len (.arg 0)))).holds [] { args:=[.list (s.map .int)] }=true:=by have k:=(holds_andW c).1;rw [t] at k;exact k
  have f:=condW_of k (w_not (w_lt w_lit (w_len_list (w_arg rfl))));rw [bu] at f;refine Nat.le_of_not_lt fun q=>?_;have u:(n:Int) < ((s.length:Nat):Int):=by lia
  first
   | (rw [h_ u] at f;exact absurd f (by decide))
   | (simp at f;lia)
 cases w with
 | cons g i=>
  cases i;cases g with
  | list o x=>exact⟨_,_,s,rfl,rfl,o,mh s _ x,e⟩
theorem wT (l:OpenLaw) (a:List WData):l.row.toRowW.claim.post a (.bool true) a=true:=
 postW_of (r:=l.row.toRowW) (X:=(true == true))
  (show WShape.has [] (.bool true) .bool=true by first | rfl | decide | simp [WShape.has,WShape.arms,WShape.armsAll])
  (show (WTm.eq .res (.lit (.bool true))).value [] { args:=a,res:=some (.bool true),after:=a }=some (.bool (true == true)) from w_eq_bool (w_res rfl) w_lit) rfl
theorem attach_call {l:OpenLaw}
  (E:l.most=some n) (q:d.params.defaults=[])
  (call:∀(w:World) (h s:Shared) (mg j:SV) (x:Addr) (o:Obj) (y k c:Value) (a:Addr) (v:LV) (m:List Int),
   Ground N loose [] XP w h mg j s.heap->YP w s.heap ->
   s.heap.get? x=some o->o.data=.func (docDef d.name d.params d.body d.scope y k c)->s.heap.CodeRec k d.name->mg d.name=some (.ref x) ->
   s.heap.get? a=some { cls:=.type "list",data:=.seq v.toArray }->IntsAre v m->m.length≤n->s.gens=#[] ->
   codeAny (model l.prog w) callerA (.call (.ref x) ⟨[.ref a],[]⟩) (fun r z=>r=.ok (.ret (.bool true))/\OldK s.heap z.heap/\z.os=s.os/\AllBare z.gens) s) :
  WalkO N loose XP YP l.row.toRowW d [] (fun f v=>PySem.call f v):=by
 intro w h s mg j G Y x o y k c V kV I hd t D g A H F M p S L u B;obtain rfl:V=.none:=Dflts.none D q;obtain rfl:kV=.none:=Dflts.noKw D;obtain⟨a,v,m,rfl,rfl,b,i,e⟩:=wQ E p u;refine enter_call (codeAny_mono (call w h s mg j x o y k c a v m G Y I (fd_plain hd) t g b i e A) fun r z J=>?_);obtain⟨rfl,h2,K,P⟩:=J;exact⟨.inl ⟨.bool true,.bool true,[],rfl,fun _=>rfl,.bool true,wT l _,fun _=>⟨List.Pairwise.nil,fun _ C=>(nomatch C)⟩⟩,h2,K,P⟩
end Att
namespace L2
open PySem PySem.Spec PyProof.Rows
theorem oR:∀{v:LV}{s:List Int},IntsAre v s->aI (s.map V.int) v
 | _,_,.nil=>.nil
 | _,_,.cons n t h=>.cons ⟨t,rfl⟩ (oR h)
noncomputable def xI (H:Hp):Prop:=∀b,H b=none\/∃o xs,H b=some (.frz o (.lst xs))
theorem y4 {P:Program}{w:World}{K:FG}{mg W:SV}{CX:xJ}{k:Nat}{Q a:Addr}{fd:FuncData}{x:Str}{sp:Sp}{t:Shared}{y:LV}{L:List Int}
  (Z:K.In t.heap) (D:t.heap.Ns mainGlobals mg) (g:t.heap.Ns builtinsNs W) (R:∀x:Str,x≠"__name__"->W x=bootBuiltins x) (C:t.heap.NoLimit) (hg:t.gens=#[])
  (N:t.heap.get? a=some { cls:=.type "list",data:=.seq y.toArray }) (q:IntsAre y L) (hl:L.length≤sizeLine) (hr:Room k callerA)
  (F:∀base:Heap,K.In base->base.Ns mainGlobals mg->FnOk P w K mg base CX k Q fd [x] sp) (l:∀(s:Shared) (u:Value),BindsTo s fd ⟨[u],[]⟩ [(x,u)])
  (U:∀H:Hp,xI H->gL K H a (L.map V.int)->sp [.ref a] H (fun v _=>v=.bl true) fun _ _ _=>False)
  (X:∀H e z,CX [] H t (fun _ _ _=>False) e z->False) :
  codeAny (model P w) callerA (.call (.ref Q) ⟨[.ref a],[]⟩) (fun r z=>r=.ok (.ret (.bool true))/\OldK t.heap z.heap/\z.os=t.os/\AllBare z.gens) t:=by
 have rv:=oR q;have I:=q.length;have j:∀H:Hp,xI H->gL K H a (L.map V.int)->jH P w H t.heap->(∀b,H b≠none->b=a)->(H a≠none->K.lookup a=none) ->
   codeAny (model P w) callerA (.call (.ref Q) ⟨[.ref a],[]⟩) (fun r z=>r=.ok (.ret (.bool true))/\OldK t.heap z.heap/\z.os=t.os/\AllBare z.gens) t:=by
  intro H hO hS E hA hK;have p:∀{b:Addr}{o:Obj},t.heap.get? b=some o->H b=none->(qJ t.heap H).get? b=some o:=fun e n=>zw e n
  have Y:∀{b:Addr}{o:Obj}{es:Array DictEntry}{A:Nat},t.heap.get? b=some o->o.data=.dict es A->H b=none:=fun {b o es A} e d=>by
   cases f:H b with
   | none=>rfl
   | some u=>have O:b=a:=hA b (by rw [f];simp);subst O;rw [N] at e;cases e;have d':Data.seq y.toArray _=Data.dict es A:=d;cases d'
  have i:∀{b:Addr}{m:SV},t.heap.Ns b m->(qJ t.heap H).Ns b m:=fun {b m} ⟨o,es,A,e,d,r⟩=>⟨o,es,A,p e (Y e d),d,r⟩;have B:K.In (qJ t.heap H):=fun b o e=>p (Z b o e) (by
   cases f:H b with
   | none=>rfl
   | some u=>have O:b=a:=hA b (by rw [f];simp);subst O;rw [hK (by rw [f];simp)] at e;cases e)
  have hM:Mod K mg (qJ t.heap H):=⟨B,i D,⟨W,i g,R⟩,let ⟨mc,J,h2⟩:=C;⟨mc,i J,h2⟩⟩;have e0:Env0 P w K mg (qJ t.heap H) callerA [] t H:=⟨rfl,hM,fun b o e=>A8 e,Nat.le_of_eq (xj _ _),trivial,fun b g=>absurd (show b ∈ ([]:List Addr) from g) (by simp),E,.of_eq hg⟩;refine codeAny_mono ((F _ B (i D)).run callerA [] t H ⟨[.ref a],[]⟩ [.ref a] [.ref a] _ _ hr e0 (l t (.ref a)) (.cons rfl .nil) (U H hO hS)) fun r z h=>?_;cases r with
  | error e=>exact (X H e z h).elim
  | ok fl=>
   cases fl with
   | next=>exact False.elim h
   | brk=>exact False.elim h
   | cont=>exact False.elim h
   | ret u=>
    obtain⟨v,H',os,S,un,G,r',f⟩:=h;have q':v=.bl true:=f;subst q';obtain rfl:u=Value.bool true:=r';refine⟨rfl,OldK.of_keep fun b o e=>?_,os,S⟩;cases f:H b with
    | none=>exact un.keep b o e f (by intro c;exact absurd (show b ∈ ([]:List Addr) from c) (by simp)) (by simp)
    | some u=>
     rcases hO b with c | ⟨ob,xs,c⟩
     .rw [f] at c;cases c
     .have z2:=un.frzs b ob _ c;obtain⟨e1,_⟩:=E b _ c;obtain⟨e2,_⟩:=G b _ z2;rw [e] at e1;cases e1;exact e2
 cases T:K.lookup a with
 | some o=>have e:=Z a o T;rw [N] at e;cases e;refine j (fun _=>none) (fun _=>.inl rfl) (.inr ⟨_,y.toArray,_,T,rfl,rfl,rfl,by rw [List.size_toArray,I];exact hl,by simpa using rv⟩) (fun b u c=>by have M:(none:Option HO)=some u:=c;cases M) (fun b c=>absurd rfl c) fun c=>absurd rfl c
 | none=>
  refine j (fun b=>if b=a then some (.frz { cls:=.type "list",data:=.seq y.toArray } (.lst (L.map V.int))) else none) (fun b=>?_) (.inl (.inr ⟨{ cls:=.type "list",data:=.seq y.toArray },if_pos rfl⟩)) (fun b u c=>?_) (fun b c=>?_) fun _=>T
  .by_cases g:b=a
   .exact .inr ⟨_,_,if_pos g⟩
   .exact .inl (if_neg g)
  .by_cases g:b=a
   .have M:=(if_pos g).symm.trans c;cases M;subst g;exact⟨N,by rw [bu];exact hl,y,_,rv,N⟩
   .have M:=(if_neg g).symm.trans c;cases M
  .by_cases g:b=a
   .exact g
   .exact absurd (if_neg g) c
noncomputable abbrev KA {K:FG} (_:K.In h):FG:=K
theorem Ar {l:PySem.W.OpenLaw}{n k:Nat}{q:Program}{c:LS}{D:(SV)->Heap->Prop}{P:World->Heap->Prop}{d:DefRec}{K:Params->FG}{CX:World->xJ}{sp:World->Sp}{x:Str}
  (R:l.most=some n) (y:n≤sizeLine) (p:d.params.defaults=[]) (T:Room k callerA)
  (L:∀(w:World) (h:Heap),P w h->(K w.params).In h)
  (F:∀(w:World) (mg:SV) (r:Addr) (h:Heap),(K w.params).In h->h.Ns mainGlobals mg->mg d.name=some (.ref r) ->
   ∃fd:FuncData,(∀(s:Shared) (u:Value),BindsTo s fd ⟨[u],[]⟩ [(x,u)]) /\
    ∀base:Heap,(K w.params).In base->base.Ns mainGlobals mg->FnOk l.prog w (K w.params) mg base (CX w) k r fd [x] (sp w))
  (S:∀(w:World) (H:Hp) (a:Addr) (t:List Int),t.length≤n->xI H->gL (K w.params) H a (t.map V.int)->sp w [.ref a] H (fun v _=>v=.bl true) fun _ _ _=>False)
  (C:∀(w:World) (H:Hp) (s:Shared) (e:Value) (z:Shared),CX w [] H s (fun _ _ _=>False) e z->False) :
  PySem.W.WalkO q c D P l.row.toRowW d [] (fun f B=>PySem.call f B):=by
 refine Att.attach_call R p fun w A m mg Z r o pm U E a B t G Y W hd N g j i b Q=>?_;have X:=L w _ Y;obtain⟨fd,M,I⟩:=F w mg r _ X G.T.g g;exact y4 X G.T.g G.T.b G.T.builtins G.T.nolimit Q j i (aQ b y) T I M (fun H O J=>S w H a t b O J) fun H e z=>C w H m e z
theorem xT {l:PySem.W.OpenLaw}{n k:Nat}{q:Program}{o:LS}{X:(SV)->Heap->Prop}{Y:World->Heap->Prop}{d:DefRec}{K:Params->FG}{CX:xJ}{sp:FG->Sp}{x:Str}
  (i:l.most=some n) (m:n≤sizeLine) (c:d.params.defaults=[]) (j:Room k callerA)
  (g:∀(w:World) (h:Heap),Y w h->(K w.params).In h)
  (F:∀(w:World) (mg:SV) (r:Addr) (h:Heap),(K w.params).In h->h.Ns mainGlobals mg->mg d.name=some (.ref r) ->
   ∃fd:FuncData,(∀(s:Shared) (u:Value),BindsTo s fd ⟨[u],[]⟩ [(x,u)]) /\
    ∀base:Heap,(K w.params).In base->base.Ns mainGlobals mg->FnOk l.prog w (K w.params) mg base CX k r fd [x] (sp (K w.params)))
  (p:∀(K:FG) (H:Hp) (a:Addr) (b:List Int),b.length≤n->xI H->gL K H a (b.map V.int)->sp K [.ref a] H (fun v _=>v=.bl true) fun _ _ _=>False)
  (C:∀(H:Hp) (s:Shared) (e:Value) (z:Shared),CX [] H s (fun _ _ _=>False) e z->False) :
  PySem.W.WalkO q o X Y l.row.toRowW d [] (fun f y=>PySem.call f y):=
 Ar (K:=K) (CX:=fun _=>CX) (sp:=fun w=>sp (K w.params)) i m c j g F (fun w H a b J h2 t=>p (K w.params) H a b J h2 t) fun _ H s e z=>C H s e z
noncomputable def cq (s:Stmt) (j:Nat):Stmt:=match s with
 | .ClassDef _ _ _ b _ _ _ _ _ _ _=>b.getD j (.Pass ⟨0,0,0,0⟩)
 | _=>.Pass ⟨0,0,0,0⟩
noncomputable def aw (s:Stmt):Arguments:=match s with
 | .FunctionDef _ a _ _ _ _ _ _ _ _=>a
 | _=>{ posonlyargs:=[],args:=[],vararg:=none,kwonlyargs:=[],kw_defaults:=[],kwarg:=none,defaults:=[] }
noncomputable def aq (s:Stmt):List Stmt:=match s with
 | .FunctionDef _ _ b _ _ _ _ _ _ _=>b
 | _=>[]
noncomputable def ai (s:Stmt):Scope:=match s with
 | .FunctionDef _ _ _ _ _ _ sc _ _ _=>sc
 | _=>{ kind:=.function,names:=[],isGenerator:=false,isCoroutine:=false }
noncomputable abbrev pG:xJ:=fun _ _ _ _ _ _=>False
noncomputable abbrev E0:XK:=fun _ _ _=>False
theorem o5:j' pG X E0:=fun _ _ _ _ _ _ _ h=>h.elim
structure Fun (K:FG) (x qual:Str) (st:Stmt) (f:Addr) (fd:FuncData):Prop where
 ex:∃(oc:Value) (od:Option Addr) (kV doc pm:Value) (an:Option Addr) (cdv ct:Value) (osl:Array (OV)),
  fd=PySem.W.fnOf x qual (aw st) (aq st) (ai st) .none kV doc pm an cdv ct/\K.lookup f=some ⟨oc,od,.func fd,osl⟩/\PySem.W.codeIn K cdv qual=true
 kp:PySem.W.keepIn K (.ref f)=true
section
variable {P:Program}{w:World}{K:FG}{mg:SV}{base:Heap}
theorem Fun.ok {x u:Str}{st:Stmt}{f:Addr}{fd:FuncData}{N ps:LS}{k:Nat}{sp:Sp} (F:Fun K x u st f fd) (S:FnScope N ps (ai st)) (len:∀v H Q E,sp v H Q E->v.length=ps.length)
  (b:∀(c:Value) (A:Around) (o:List Env) (s:Shared) (H:Hp) (v:List V) (Q:VK) (E:XK),Room k (A.deeper (envOfC u (ai st) s.heap.objs.size f c))->sp v H Q E ->
   ∃t,mw (tN pG P w K mg base N u (ai st) f c A o s H E).nox (aq st) t/\t { nx:=fun _ H'=>Q .non H',rt:=Q } (start N v) H):FnOk P w K mg base pG (k+1) f fd ps sp:=by
 obtain⟨m,g,kV,a,i,n,c,e,l,rfl,lk,d⟩:=F.ex;refine GV lk d S len fun A o s H v Q E r p=>?_;obtain⟨t,h,q⟩:=b c A o s H v Q E r p;exact⟨t,h.nox,q⟩
theorem Fun.binds {x q:Str}{st:Stmt}{f:Addr}{fd:FuncData}{ps:LS} (F:Fun K x q st f fd)
  (h:∀(kV d p:Value) (a:Option Addr) (c t:Value) (Y:LV),Y.length=ps.length->bindArgs (PySem.W.fnOf x q (aw st) (aq st) (ai st) .none kV d p a c t) ⟨Y,[]⟩=pure (ps.zip Y)):Binds K fd ps []:=by
 obtain⟨s,n,kV,d,p,a,c,t,o,rfl,lk,e⟩:=F.ex;exact .all (h kV d p a c t)
theorem aj {x q:Str}{st:Stmt}{f:Addr}{h:Value}{e a:Option Addr}{s:Array (OV)}{kV o p d t:Value} (l:K.lookup f=some ⟨h,e,.func (PySem.W.fnOf x q (aw st) (aq st) (ai st) .none kV o p a d t),s⟩)
  (c:PySem.W.codeIn K d q=true) (k:PySem.W.keepIn K (.ref f)=true):Fun K x q st f (PySem.W.fnOf x q (aw st) (aq st) (ai st) .none kV o p a d t):=⟨⟨h,e,kV,o,p,a,d,t,s,rfl,l,c⟩,k⟩
end
section
variable {X:Cx}
theorem pv (i:Nat) (N:X.N[i]? = some x:=by rfl) (v:Ek X.env.scope x:=by first | exact Or.inl rfl | exact Or.inr (Or.inl rfl) | exact Or.inr (Or.inr rfl)) (hd:(x == ("__debug__":Str))=false:=by decide)
  (h:(x == ("__classdict__":Str))=false:=by decide):PE X (.Name x O) (Fo i):=yw N v hd h
end
noncomputable def LA (H H':Hp):Prop:=∀b o,H b=some o->H' b=some o
end L2
namespace PySem
open PySem PyProof.Rows
namespace F
theorem entry_dict_update_loop:entryFor table "dict.update.loop"=some Builtin.«dict.update.loop»:=entryFor_of_tree (by kernel_rfl)
theorem plain_dict_update_loop:plainId "dict.update.loop"=true:=by decide +kernel
end F
section
variable {prog:Program}{w:World}{A:Around}{E:VP}{s:Shared}
inductive PairsAt {K:Type} [DecidableEq K] (knd:KeyKind prog w K) (h:Heap):LV->List (K×Value)->Prop
 | nil:PairsAt knd h [] []
 | cons {t:Addr}{key v:Value}{k:K}{us:LV}{kvs:List (K×Value)}:IsTup h t #[key,v]->knd.is k key=true->PairsAt knd h us kvs->PairsAt knd h (.ref t::us) ((k,v)::kvs)
end
end PySem
namespace Ev
open PySem L2
noncomputable def GG (a C:Addr):Heap->Prop:=fun h=>∃o,h.get? a=some o/\o.cls=.ref C
inductive P where
 | non | bl (b:Bool) | int (i:Int) | str (x:Str) | tup (xs:List P) | lst (xs:List P) | ro (xs:List P) | dct (ks:List bC) (vs:List P)
inductive D where
 | p (v:P) | ref (i:Nat)
inductive SO where
 | lst (xs:List D) | dct (ks:List bC) (vs:List D) | fz (v:P) | ins (c:Str) (ks:LS) (vs:List D) | exc (c:Str) | dtt (ks:List (List bC)) (vs:List D)
noncomputable abbrev aF:=List SO
noncomputable abbrev Lc:=List (Option D)
noncomputable def J3 (K:FG) (a:Addr) (xs:List V):Prop:=mP K (fun _=>none) a xs
noncomputable def J4 (K:FG) (a:Addr) (xs:List V):Prop:=gL K (fun _=>none) a xs
noncomputable def TupAt (K:FG) (H:Hp) (a:Addr) (xs:List V):Prop:=H a=some (.tup xs)\/J3 K a xs
noncomputable def LstAt (F:Aa) (H:Hp) (a:Addr) (xs:List V):Prop:=F a/\H a=some (.lst xs)
noncomputable def xH (K:FG) (F:Aa) (H:Hp) (a:Addr) (xs:List V):Prop:=(F a/\∃o,H a=some (.frz o (.lst xs)))\/J4 K a xs
variable {K:FG}{H:Hp}{a:Addr}{xs:List V}
theorem TupAt.sq (h:TupAt K H a xs):mP K H a xs:=by
 rcases h with h | (h | h)
 .exact .inl (.inl h)
 .rcases h with h | ⟨o,h⟩ <;> cases h
 .exact .inr h
variable {F:Aa}
theorem LstAt.sq (h:LstAt F H a xs):gL K H a xs:=.inl (.inl h.2)
theorem xH.sq (h:xH K F H a xs):gL K H a xs:=by
 rcases h with ⟨_,o,h⟩ | (h | h)
 .exact .inl (.inr ⟨o,h⟩)
 .rcases h with h | ⟨o,h⟩ <;> cases h
 .exact .inr h
section
variable (K:FG) (F:Aa) (H:Hp)
mutual
noncomputable def RP:P->V->Prop
 | .non,v=>v=.non
 | .bl b,v=>v=.bl b
 | .int i,v=>v=.int i
 | .str x,v=>v=.str x
 | .tup ds,v=>∃a xs,v=.ref a/\TupAt K H a xs/\b9 ds xs
 | .lst ds,v=>∃a xs,v=.ref a/\LstAt F H a xs/\b9 ds xs
 | .ro ds,v=>∃a xs,v=.ref a/\xH K F H a xs/\b9 ds xs
 | .dct ks ds,v=>∃a kvs,v=.ref a/\F a/\H a=some (.dK kvs)/\kvs.map (·.1)=ks/\b9 ds (kvs.map (·.2))
noncomputable def b9:List P->List V->Prop
 | [],xs=>xs=[]
 | d::ds,xs=>∃x r,xs=x::r/\RP d x/\b9 ds r
end
noncomputable def RD (m:List Addr):D->V->Prop
 | .p d,v=>RP K F H d v
 | .ref i,v=>∃a,v=.ref a/\m[i]? = some a
noncomputable def dc (m:List Addr):List D->List V->Prop
 | [],xs=>xs=[]
 | d::s,xs=>∃x r,xs=x::r/\RD K F H m d x/\dc m s r
noncomputable def RO (m:List Addr) (a:Addr):SO->Prop
 | .lst d=>∃xs,H a=some (.lst xs)/\dc K F H m d xs
 | .dct s d=>∃k,H a=some (.dK k)/\k.map (·.1)=s/\dc K F H m d (k.map (·.2))
 | .fz v=>RP K F H v (.ref a)
 | .ins c s d=>∃C x k,PySem.W.nsIn K mainGlobals c=some (some (.ref C))/\H a=some (.ins C x k)/\k.map (·.1)=s/\dc K F H m d (k.map (·.2))
 | .dtt s d=>∃k,H a=some (.dT k)/\k.map (·.1)=s/\dc K F H m d (k.map (·.2))
 | .exc c=>∃C,PySem.W.nsIn K mainGlobals c=some (some (.ref C))/\H a=some (.ext (GG a C))
noncomputable def SO.own:SO->Prop
 | .fz _=>False
 | _=>True
structure Rel (m:List Addr) (S:aF):Prop where
 len:m.length=S.length
 nd:m.Nodup
 obj:∀(i:Nat) a o,m[i]? = some a->S[i]? = some o->RO K F H m a o
 sep:∀(i:Nat) a o,m[i]? = some a->S[i]? = some o->o.own->¬F a
 trk:∀a ∈ m,H a≠none
 ft:∀a,F a->H a≠none
end
structure Kp (F:Aa) (m:List Addr) (H:Hp) (F':Aa) (m':List Addr) (H':Hp):Prop where
 pre:∃n,m'=m++n
 frz:∀b,F b->F' b
 frk:∀b o,F b->H b=some o->H' b=some o
 tup:∀b xs,H b=some (.tup xs)->H' b=some (.tup xs)
structure Stp (F:Aa) (m:List Addr) (H:Hp) (F':Aa) (m':List Addr) (H':Hp):Prop where
 pre:∃n,m'=m++n
 oth:∀b o,H b=some o->b ∉ m->H' b=some o
 frz:∀b,F b->F' b
 frk:∀b o,F b->H b=some o->H' b=some o
 tup:∀b xs,H b=some (.tup xs)->H' b=some (.tup xs)
 trk:∀b,H b≠none->H' b≠none
 nf:∀b,F' b->F b\/H b=none\/b ∈ m
 nm:∀b,b ∈ m'->b ∈ m\/H b=none
variable {F':Aa}{m:List Addr}{m':List Addr}{H':Hp}
theorem Stp.kp (s:Stp F m H F' m' H'):Kp F m H F' m' H':=⟨s.pre,s.frz,s.frk,s.tup⟩
theorem Stp.refl:Stp F m H F m H:=
 ⟨⟨[],by simp⟩,fun _ _ h _=>h,fun _ h=>h,fun _ _ _ h=>h,fun _ _ h=>h,fun _ h=>h,fun _ h=>.inl h,fun _ h=>.inl h⟩
theorem Stp.trans (a:Stp F m H C k I) (b:Stp C k I B r Y):Stp F m H B r Y where
 pre:=by obtain⟨f,s⟩:=a.pre;obtain⟨t,n⟩:=b.pre;exact⟨f++t,by rw [n,s,List.append_assoc]⟩
 oth:=fun c o h x=>b.oth c o (a.oth c o h x) fun z=>by
  rcases a.nm c z with z | z
  .exact x z
  .rw [h] at z;cases z
 frz:=fun c h=>b.frz c (a.frz c h)
 frk:=fun c o h e=>b.frk c o (a.frz c h) (a.frk c o h e)
 tup:=fun c xs h=>b.tup c xs (a.tup c xs h)
 trk:=fun c h=>b.trk c (a.trk c h)
 nf:=fun c h=>by
  rcases b.nf c h with h | h | h
  .exact a.nf c h
  .by_cases e:H c=none
   .exact .inr (.inl e)
   .exact absurd h (a.trk c e)
  .rcases a.nm c h with h | h
   .exact .inr (.inr h)
   .exact .inr (.inl h)
 nm:=fun c h=>by
  rcases b.nm c h with h | h
  .exact a.nm c h
  .by_cases e:H c=none
   .exact .inr e
   .exact absurd h (a.trk c e)
section
variable {K:FG}{F F':Aa}{H H':Hp}{m m':List Addr}{S O:aF}
theorem TupAt.kp (s:Kp F m H F' m' H') (h:TupAt K H a xs):TupAt K H' a xs:=by
 rcases h with h | h
 .exact .inl (s.tup _ _ h)
 .exact .inr h
theorem LstAt.kp (s:Kp F m H F' m' H') (h:LstAt F H a xs):LstAt F' H' a xs:=⟨s.frz _ h.1,s.frk _ _ h.1 h.2⟩
theorem xH.kp (s:Kp F m H F' m' H') (h:xH K F H a xs):xH K F' H' a xs:=by
 rcases h with ⟨f,o,h⟩ | h
 .exact .inl ⟨s.frz _ f,o,s.frk _ _ f h⟩
 .exact .inr h
mutual
theorem RP.kp (s:Kp F m H F' m' H'):∀{d:P}{v:V},RP K F H d v->RP K F' H' d v
 | .non,_,h=>h
 | .bl _,_,h=>h
 | .int _,_,h=>h
 | .str _,_,h=>h
 | .tup _,_,h=>by obtain⟨a,xs,e,t,r⟩:=h;exact⟨a,xs,e,t.kp s,b9.kp s r⟩
 | .lst _,_,h=>by obtain⟨a,xs,e,t,r⟩:=h;exact⟨a,xs,e,t.kp s,b9.kp s r⟩
 | .ro _,_,h=>by obtain⟨a,xs,e,t,r⟩:=h;exact⟨a,xs,e,t.kp s,b9.kp s r⟩
 | .dct _ _,_,h=>by obtain⟨a,kvs,e,f,t,k,r⟩:=h;exact⟨a,kvs,e,s.frz _ f,s.frk _ _ f t,k,b9.kp s r⟩
theorem b9.kp (s:Kp F m H F' m' H'):∀{ds:List P}{xs:List V},b9 K F H ds xs->b9 K F' H' ds xs
 | [],_,h=>h
 | _::_,_,h=>by obtain⟨x,r,e,h1,h2⟩:=h;exact⟨x,r,e,RP.kp s h1,b9.kp s h2⟩
end
theorem RD.kp (s:Kp F m H F' m' H'):∀{d:D}{v:V},RD K F H m d v->RD K F' H' m' d v
 | .p _,_,h=>RP.kp s h
 | .ref i,_,h=>by obtain⟨a,e,h⟩:=h;obtain⟨n,x⟩:=s.pre;refine⟨a,e,?_⟩;rw [x];have k:i < m.length:=(List.getElem?_eq_some_iff.mp h).1;rw [List.getElem?_append_left k];exact h
theorem dc.kp (s:Kp F m H F' m' H'):∀{d:List D}{xs:List V},dc K F H m d xs->dc K F' H' m' d xs
 | [],_,h=>h
 | _::_,_,h=>by obtain⟨x,r,e,a,n⟩:=h;exact⟨x,r,e,RD.kp s a,dc.kp s n⟩
variable {d:P}{v:V}
theorem RP.mono (s:Stp F m H F' m' H') (h:RP K F H d v):RP K F' H' d v:=RP.kp s.kp h
theorem b9.mono (s:Stp F m H F' m' H') {d:List P}{v:List V} (h:b9 K F H d v):b9 K F' H' d v:=b9.kp s.kp h
theorem RD.mono (s:Stp F m H F' m' H') {d:D}{v:V} (h:RD K F H m d v):RD K F' H' m' d v:=RD.kp s.kp h
theorem dc.mono (s:Stp F m H F' m' H') {d:List D}{v:List V} (h:dc K F H m d v):dc K F' H' m' d v:=dc.kp s.kp h
theorem b9.length:∀{d:List P}{xs:List V},b9 K F H d xs->d.length=xs.length
 | [],_,h=>by rw [show _=([]:List V) from h] <;> rfl
 | _::_,_,h=>by obtain⟨x,r,e,_,a⟩:=h;rw [e,bt,bt,b9.length a]
theorem dc.length:∀{d:List D}{xs:List V},dc K F H m d xs->d.length=xs.length
 | [],_,h=>by rw [show _=([]:List V) from h] <;> rfl
 | _::_,_,h=>by obtain⟨x,r,e,_,a⟩:=h;rw [e,bt,bt,dc.length a]
theorem b9.get:∀{s:List P}{xs:List V}{i:Nat}{d:P},b9 K F H s xs->s[i]? = some d->∃x,xs[i]? = some x/\RP K F H d x
 | [],_,_,_,_,e=>by simp at e
 | _::_,_,0,_,h,e=>by obtain⟨x,r,rfl,n,_⟩:=h;simp at e;subst e;exact⟨x,rfl,n⟩
 | _::_,_,i+1,d,h,e=>by obtain⟨x,r,rfl,_,k⟩:=h;obtain⟨y,a,f⟩:=b9.get (i:=i) k (by simpa using e);exact⟨y,by simpa using a,f⟩
theorem b9.append:∀{d T:List P}{xs y:List V},b9 K F H d xs->b9 K F H T y->b9 K F H (d++T) (xs++y)
 | [],_,_,_,h,g=>by rw [show _=([]:List V) from h];exact g
 | _::_,_,_,_,h,g=>by obtain⟨x,r,rfl,a,e⟩:=h;exact⟨x,r++_,rfl,a,b9.append e g⟩
theorem dc.append:∀{d T:List D}{xs y:List V},dc K F H m d xs->dc K F H m T y->dc K F H m (d++T) (xs++y)
 | [],_,_,_,h,g=>by rw [show _=([]:List V) from h];exact g
 | _::_,_,_,_,h,g=>by obtain⟨x,r,rfl,a,e⟩:=h;exact⟨x,r++_,rfl,a,dc.append e g⟩
theorem b9.take:∀(n:Nat) {d:List P}{xs:List V},b9 K F H d xs->b9 K F H (d.take n) (xs.take n)
 | 0,_,_,_=>rfl
 | _+1,[],_,h=>by rw [show _=([]:List V) from h];rfl
 | n+1,_::_,_,h=>by obtain⟨x,r,rfl,a,e⟩:=h;exact⟨x,r.take n,rfl,a,b9.take n e⟩
theorem b9.drop:∀(n:Nat) {d:List P}{xs:List V},b9 K F H d xs->b9 K F H (d.drop n) (xs.drop n)
 | 0,_,_,h=>h
 | _+1,[],_,h=>by rw [show _=([]:List V) from h];rfl
 | n+1,_::_,_,h=>by obtain⟨x,r,rfl,_,a⟩:=h;exact b9.drop n a
theorem dc.take:∀(n:Nat) {d:List D}{xs:List V},dc K F H m d xs->dc K F H m (d.take n) (xs.take n)
 | 0,_,_,_=>rfl
 | _+1,[],_,h=>by rw [show _=([]:List V) from h];rfl
 | n+1,_::_,_,h=>by obtain⟨x,r,rfl,a,e⟩:=h;exact⟨x,r.take n,rfl,a,dc.take n e⟩
theorem dc.get:∀{s:List D}{xs:List V}{i:Nat}{d:D},dc K F H m s xs->s[i]? = some d->∃x,xs[i]? = some x/\RD K F H m d x
 | [],_,_,_,_,e=>by simp at e
 | _::_,_,0,_,h,e=>by obtain⟨x,r,rfl,n,_⟩:=h;simp at e;subst e;exact⟨x,rfl,n⟩
 | _::_,_,i+1,d,h,e=>by obtain⟨x,r,rfl,_,k⟩:=h;obtain⟨y,a,f⟩:=dc.get (i:=i) k (by simpa using e);exact⟨y,by simpa using a,f⟩
theorem dc.ofP:∀{d:List P}{xs:List V},b9 K F H d xs->dc K F H m (d.map .p) xs
 | [],_,h=>h
 | _::_,_,h=>by obtain⟨x,r,e,a,s⟩:=h;exact⟨x,r,e,a,dc.ofP s⟩
variable {p:Addr}
theorem Rel.fresh_m (r:Rel K F H m S) (h:H p=none):p ∉ m:=fun z=>r.trk p z h
theorem Rel.fresh_F (r:Rel K F H m S) (h:H p=none):¬F p:=fun z=>r.ft p z h
variable {o:HO}
theorem io (x:H p=none):Stp F m H F m (cf H p o) where
 pre:=⟨[],by simp⟩
 oth:=fun b u h _=>by rw [az (by rintro rfl;rw [x] at h;cases h)];exact h
 frz:=fun _ h=>h
 frk:=fun b u _ h=>by rw [az (by rintro rfl;rw [x] at h;cases h)];exact h
 tup:=fun b u h=>by rw [az (by rintro rfl;rw [x] at h;cases h)];exact h
 trk:=fun b h=>by
  by_cases e:b=p
  .subst e;rw [aK];exact fun z=>nomatch z
  .rw [az e];exact h
 nf:=fun _ h=>.inl h
 nm:=fun _ h=>.inl h
theorem RO.kp (s:Kp F m H F' m' H') {a:Addr}{o:SO} (k:∀u,H a=some u->H' a=some u) (h:RO K F H m a o):RO K F' H' m' a o:=by
 cases o with
 | lst d=>obtain⟨xs,e,r⟩:=h;exact⟨xs,k _ e,dc.kp s r⟩
 | dct b d=>obtain⟨x,e,f,r⟩:=h;exact⟨x,k _ e,f,dc.kp s r⟩
 | fz v=>exact RP.kp s (show RP K F H v (.ref a) from h)
 | ins c b d=>obtain⟨C,t,x,n,e,f,r⟩:=h;exact⟨C,t,x,n,k _ e,f,dc.kp s r⟩
 | dtt b d=>obtain⟨x,e,f,r⟩:=h;exact⟨x,k _ e,f,dc.kp s r⟩
 | exc c=>obtain⟨C,n,e⟩:=h;exact⟨C,n,k _ e⟩
theorem RO.mono (s:Stp F m H F' m' H') {a:Addr}{o:SO} (k:∀u,H a=some u->H' a=some u) (h:RO K F H m a o):RO K F' H' m' a o:=RO.kp s.kp k h
theorem Rel.stayK (r:Rel K F H m S) (s:Kp F m H F' m H') (k:∀a u,a ∈ m->H a=some u->H' a=some u) (n:∀a,F' a->F a\/H a=none) (t:∀a,F' a->H' a≠none):Rel K F' H' m S where
 len:=r.len
 nd:=r.nd
 obj:=fun i a o e x=>(r.obj i a o e x).kp s fun u h=>k a u (bY e) h
 sep:=fun i a o e x w f=>by
  rcases n a f with f | f
  .exact r.sep i a o e x w f
  .exact r.trk a (bY e) f
 trk:=fun a h=>by
  cases q:H a with
  | none=>exact absurd q (r.trk a h)
  | some u=>rw [k a u h q];exact fun z=>nomatch z
 ft:=t
theorem Rel.stay (r:Rel K F H m S) (s:Stp F m H F' m H') (k:∀a u,a ∈ m->H a=some u->H' a=some u) (n:∀a,F' a->F a\/H a=none) (t:∀a,F' a->H' a≠none):Rel K F' H' m S where
 len:=r.len
 nd:=r.nd
 obj:=fun i a o e x=>(r.obj i a o e x).mono s fun u h=>k a u (bY e) h
 sep:=fun i a o e x w f=>by
  rcases n a f with f | f
  .exact r.sep i a o e x w f
  .exact r.trk a (bY e) f
 trk:=fun a h=>s.trk a (r.trk a h)
 ft:=t
theorem Rel.new (r:Rel K F H m S) (x:H p=none):Rel K F (cf H p o) m S:=
 r.stay (io x) (fun a u e h=>by rw [az (by rintro rfl;exact r.fresh_m x e)];exact h) (fun _ f=>.inl f) fun a f=>(io (F:=F) (m:=m) x).trk a (r.ft a f)
theorem fZ {p:Addr}{o:HO} (x:H p=none):Stp F m H F (m++[p]) (cf H p o) where
 pre:=⟨[p],rfl⟩
 oth:=(io (F:=F) (m:=m) (o:=o) x).oth
 frz:=fun _ h=>h
 frk:=(io (F:=F) (m:=m) (o:=o) x).frk
 tup:=(io (F:=F) (m:=m) (o:=o) x).tup
 trk:=(io (F:=F) (m:=m) (o:=o) x).trk
 nf:=fun _ h=>.inl h
 nm:=fun b h=>by
  rcases dh.mp h with h | h
  .exact .inl h
  .have:b=p:=by simpa using h
   subst this;exact .inr x
theorem Rel.own (r:Rel K F H m S) {p:Addr}{o:HO}{c:SO} (n:H p=none) (v:RO K F (cf H p o) (m++[p]) p c):Rel K F (cf H p o) (m++[p]) (S++[c]) where
 len:=by rw [cV,cV,r.len];rfl
 nd:=by
  rw [List.nodup_append];refine⟨r.nd,by simp,fun a t b q e=>?_⟩;have:b=p:=by simpa using q
  subst this;subst e;exact r.fresh_m n t
 obj:=fun i a u x s=>by
  by_cases k:i < m.length
  .rw [List.getElem?_append_left k] at x;rw [List.getElem?_append_left (by rw [<- r.len];exact k)] at s;exact (r.obj i a u x s).mono (fZ n) fun w h=>by rw [az (by rintro rfl;rw [n] at h;cases h)];exact h
  .have l:i=m.length:=by
    have:=(List.getElem?_eq_some_iff.mp x).1;rw [cV] at this;simp at this;lia
   subst l;rw [fQ (Nat.le_refl _)] at x;rw [r.len,fQ (Nat.le_refl _)] at s;simp at x s;subst x;subst s;exact v
 sep:=fun i a u x s w f=>by
  by_cases k:i < m.length
  .rw [List.getElem?_append_left k] at x;rw [List.getElem?_append_left (by rw [<- r.len];exact k)] at s;exact r.sep i a u x s w f
  .have l:i=m.length:=by
    have:=(List.getElem?_eq_some_iff.mp x).1;rw [cV] at this;simp at this;lia
   subst l;rw [fQ (Nat.le_refl _)] at x;simp at x;subst x;exact r.fresh_F n f
 trk:=fun a h=>by
  rcases dh.mp h with h | h
  .exact (fZ (F:=F) (m:=m) n).trk a (r.trk a h)
  .have:a=p:=by simpa using h
   subst this;rw [aK];exact fun z=>nomatch z
 ft:=fun a f=>(fZ (F:=F) (m:=m) n).trk a (r.ft a f)
variable {i:Nat}
theorem fy (r:Rel K F H m S) (x:m[i]? = some p) (s:S[i]? = some k) (hw:k.own) (t:∀xs,H p≠some (.tup xs)):Stp F m H F m (cf H p o) where
 pre:=⟨[],by simp⟩
 oth:=fun b u h a=>by rw [az (by rintro rfl;exact a (bY x))];exact h
 frz:=fun _ h=>h
 frk:=fun b u f h=>by rw [az (by rintro rfl;exact r.sep i _ k x s hw f)];exact h
 tup:=fun b xs h=>by rw [az (by rintro rfl;exact t xs h)];exact h
 trk:=fun b h=>by
  by_cases e:b=p
  .subst e;rw [aK];exact fun z=>nomatch z
  .rw [az e];exact h
 nf:=fun _ h=>.inl h
 nm:=fun _ h=>.inl h
theorem sE (h:m.Nodup) (e:m[i]? = some a) (x:m[k]? = some a):i=k:=by exact (List.getElem?_inj (List.getElem?_eq_some_iff.mp e).1 h).mp (e.trans x.symm)
theorem Rel.set (r:Rel K F H m S) {i:Nat}{p:Addr}{c b:SO}{o:HO} (s:m[i]? = some p) (k:S[i]? = some c) (hw:c.own) (t:∀xs,H p≠some (.tup xs)) (q:RO K F (cf H p o) m p b) :
  Rel K F (cf H p o) m (S.set i b) where
 len:=by rw [eM];exact r.len
 nd:=r.nd
 obj:=fun j a u e x=>by
  by_cases n:i=j
  .subst n;rw [s] at e;cases e;rw [dN (by exact (List.getElem?_eq_some_iff.mp k).1)] at x;cases x;exact q
  .rw [bx n] at x;exact (r.obj j a u e x).mono (fy r s k hw t) fun w h=>by rw [az (by rintro rfl;exact n (sE r.nd s e))];exact h
 sep:=fun j a u e x w f=>by
  by_cases n:i=j
  .subst n;rw [s] at e;cases e;exact r.sep i p c s k hw f
  .rw [bx n] at x;exact r.sep j a u e x w f
 trk:=fun a h=>(fy (o:=o) r s k hw t).trk a (r.trk a h)
 ft:=fun a f=>(fy (o:=o) r s k hw t).trk a (r.ft a f)
theorem qm (x:p ∈ m):Stp F m H (fun b=>F b\/b=p) m H:=
 ⟨⟨[],by simp⟩,fun _ _ h _=>h,fun _ h=>.inl h,fun _ _ _ h=>h,fun _ _ h=>h,fun _ h=>h,fun b h=>by
  rcases h with h | h
  .exact .inl h
  .subst h;exact .inr (.inr x),fun _ h=>.inl h⟩
theorem Rel.frz (r:Rel K F H m S) {i:Nat}{p:Addr}{c:SO}{v:P} (n:m[i]? = some p) (k:S[i]? = some c) (o:RP K (fun b=>F b\/b=p) H v (.ref p)):Rel K (fun b=>F b\/b=p) H m (S.set i (.fz v)) where
 len:=by rw [eM];exact r.len
 nd:=r.nd
 obj:=fun j a u x e=>by
  by_cases s:i=j
  .subst s;rw [n] at x;cases x;rw [dN (by exact (List.getElem?_eq_some_iff.mp k).1)] at e;cases e;exact o
  .rw [bx s] at e;exact (r.obj j a u x e).mono (qm (bY n)) fun w h=>h
 sep:=fun j a u x e w f=>by
  by_cases s:i=j
  .subst s;rw [dN (by exact (List.getElem?_eq_some_iff.mp k).1)] at e;cases e;exact w
  .rw [bx s] at e;rcases f with f | f
   .exact r.sep j a u x e w f
   .subst f;exact s (sE r.nd n x)
 trk:=r.trk
 ft:=fun a f=>by
  rcases f with f | f
  .exact r.ft a f
  .subst f;exact r.trk _ (bY n)
end
noncomputable abbrev EE:=Lc->aF->Option (D×aF)
noncomputable abbrev EV:=Lc->aF->Option (P×aF)
noncomputable abbrev EB:=Lc->aF->Option (Bool×aF)
noncomputable abbrev fN:=Lc->aF->Option (List P×aF)
inductive Fl where
 | nx | rt (d:D) | bk | ct
noncomputable abbrev ES:=Lc->aF->Option (Fl×Lc×aF)
variable {q:Type}{β:Type}
noncomputable def aH (x:Option (q×aF)) (f:q->aF->Option β):Option β:=match x with
 | some (a,S)=>f a S
 | none=>none
@[simp] theorem aA (a:q) (S:aF) (f:q->aF->Option β):aH (some (a,S)) f=f a S:=rfl
@[simp] theorem Hf (f:q->aF->Option β):aH none f=none:=rfl
theorem af {q β:Type}{x:Option (q×aF)}{f:q->aF->Option β}{r:β} (h:aH x f=some r):∃a S,x=some (a,S)/\f a S=some r:=by
 cases x with
 | none=>cases h
 | some p=>exact⟨p.1,p.2,rfl,h⟩
noncomputable def qD (f:D->aF->Option (P×aF)):List D->aF->Option (List P×aF)
 | [],S=>some ([],S)
 | d::r,S=>aH (f d S) fun v h=>aH (qD f r h) fun U x=>some (v::U,x)
noncomputable def toP:Nat->D->aF->Option (P×aF)
 | _,.p v,S=>some (v,S)
 | 0,.ref _,_=>none
 | n+1,.ref i,S=>match S[i]? with
  | some (.lst d)=>aH (qD (toP n) d S) fun U h=>some (.lst U,h.set i (.fz (.lst U)))
  | some (.dct k d)=>aH (qD (toP n) d S) fun U h=>some (.dct k U,h.set i (.fz (.dct k U)))
  | some (.fz v)=>some (v,S)
  | some (.ins _ _ _)=>none
  | some (.exc _)=>none
  | some (.dtt _ _)=>none
  | none=>none
@[simp] theorem Fj (n:Nat) (v:P) (S:aF):toP n (.p v) S=some (v,S):=by cases n <;> rfl
theorem ku (n:Nat):∀(U:List P) (S:aF),qD (toP n) (U.map .p) S=some (U,S)
 | [],_=>rfl
 | v::r,S=>by simp [qD,ku n r S]
variable {n:Nat}{S:aF}{U:List P}
theorem fY (h:S[i]? = some (.lst (U.map .p))):toP (n+1) (.ref i) S=some (.lst U,S.set i (.fz (.lst U))):=by simp [toP,h,ku]
section
variable {K:FG}{F:Aa}{H:Hp}{m:List Addr}{S O:aF}
theorem qC 
  (n:∀{d:D}{x:V}{v:P}{F:Aa}{S O:aF},f d S=some (v,O)->Rel K F H m S->RD K F H m d x->∃F',Stp F m H F' m H/\Rel K F' H m O/\O.length=S.length/\RP K F' H v x) :
  ∀{s:List D}{xs:List V}{U:List P}{F:Aa}{S O:aF},qD f s S=some (U,O)->Rel K F H m S->dc K F H m s xs->∃F',Stp F m H F' m H/\Rel K F' H m O/\O.length=S.length/\b9 K F' H U xs
 | [],xs,U,F,S,O,h,r,a=>by cases h;exact⟨F,.refl,r,rfl,a⟩
 | d::s,xs,U,F,S,O,h,r,a=>by obtain⟨x,y,e,p,q⟩:=a;obtain⟨v,z,c,h⟩:=af h;obtain⟨A,o,t,h⟩:=af h;cases h;obtain⟨C,k,i,l,u⟩:=n c r p;obtain⟨B,b,j,w,g⟩:=qC n t i (dc.mono k q);exact⟨B,k.trans b,j,w.trans l,x,y,e,RP.mono b u,g⟩
theorem na:∀(n:Nat) {d:D}{x:V}{v:P}{F:Aa}{S O:aF},toP n d S=some (v,O)->Rel K F H m S->RD K F H m d x->∃F',Stp F m H F' m H/\Rel K F' H m O/\O.length=S.length/\RP K F' H v x
 | n,.p w,x,v,F,S,O,h,r,u=>by rw [Fj] at h;cases h;exact⟨F,.refl,r,rfl,u⟩
 | 0,.ref i,x,v,F,S,O,h,r,u=>by cases h
 | n+1,.ref i,x,v,F,S,O,h,r,u=>by
  obtain⟨a,e,f⟩:=u;subst e;have p:i < S.length:=by rw [<- r.len];exact (List.getElem?_eq_some_iff.mp f).1
  obtain⟨o,J⟩:∃o,S[i]? = some o:=⟨S[i],by simp [p]⟩;have z:=r.obj i a o f J;simp only [toP,J] at h;cases o with
  | fz w=>cases h;exact⟨F,.refl,r,rfl,z⟩
  | ins c L I=>cases h
  | exc c=>cases h
  | dtt _ _=>cases h
  | lst I=>obtain⟨U,t,g,h⟩:=af h;cases h;obtain⟨xs,j,E⟩:=z;obtain⟨C,G,B,k,A⟩:=qC (fun h=>na n h) g r E;obtain⟨N,s⟩:∃o,t[i]? = some o:=⟨t[i]'(by rw [k];exact p),by simp [k,p]⟩;have l:Stp C m H (fun b=>C b\/b=a) m H:=qm (bY f);have q:RP K (fun b=>C b\/b=a) H (.lst U) (.ref a):=⟨a,xs,rfl,⟨.inr rfl,j⟩,b9.mono l A⟩;exact⟨_,G.trans l,B.frz f s q,by rw [eM];exact k,q⟩
  | dct L I=>obtain⟨U,t,g,h⟩:=af h;cases h;obtain⟨y,j,M,E⟩:=z;obtain⟨C,G,B,k,A⟩:=qC (fun h=>na n h) g r E;obtain⟨N,s⟩:∃o,t[i]? = some o:=⟨t[i]'(by rw [k];exact p),by simp [k,p]⟩;have l:Stp C m H (fun b=>C b\/b=a) m H:=qm (bY f);have q:RP K (fun b=>C b\/b=a) H (.dct L U) (.ref a):=⟨a,y,rfl,.inr rfl,j,M,b9.mono l A⟩;exact⟨_,G.trans l,B.frz f s q,by rw [eM];exact k,q⟩
end
structure Grow (F:Aa) (H:Hp) (F':Aa) (H':Hp):Prop where
 keep:∀b o,H b=some o->H' b=some o
 frz:∀b,F b->F' b
 nf:∀b,F' b->F b\/(H b=none/\H' b≠none)
section
variable {K:FG}{F F' C B:Aa}{H H' I Y:Hp}{m:List Addr}{S O:aF}
theorem Grow.refl:Grow F H F H:=⟨fun _ _ h=>h,fun _ h=>h,fun _ h=>.inl h⟩
theorem Grow.stp (g:Grow F H F' H'):Stp F m H F' m H' where
 pre:=⟨[],by simp⟩
 oth:=fun b o h _=>g.keep b o h
 frz:=g.frz
 frk:=fun b o _ h=>g.keep b o h
 tup:=fun b xs h=>g.keep b _ h
 trk:=fun b h=>by
  cases q:H b with
  | none=>exact absurd q h
  | some o=>rw [g.keep b o q];exact fun z=>nomatch z
 nf:=fun b h=>by
  rcases g.nf b h with h | ⟨h,_⟩
  .exact .inl h
  .exact .inr (.inl h)
 nm:=fun _ h=>.inl h
theorem Rel.grow (r:Rel K F H m S) (g:Grow F H F' H'):Rel K F' H' m S:=
 r.stay g.stp (fun a u _ h=>g.keep a u h) (fun a f=>by
  rcases g.nf a f with f | ⟨f,_⟩
  .exact .inl f
  .exact .inr f) fun a f=>by
  rcases g.nf a f with f | ⟨_,f⟩
  .exact (g.stp (m:=m)).trk a (r.ft a f)
  .exact f
theorem b0 {p:Addr}{o:HO} (x:H p=none):Grow F H F (cf H p o):=
 ⟨fun b u h=>by rw [az (by rintro rfl;rw [x] at h;cases h)];exact h,fun _ h=>h,fun _ h=>.inl h⟩
theorem bP {p:Addr}{o:HO} (x:H p=none):Grow F H (fun b=>F b\/b=p) (cf H p o):=
 ⟨fun b u h=>by rw [az (by rintro rfl;rw [x] at h;cases h)];exact h,fun _ h=>.inl h,fun b h=>by
  rcases h with h | h
  .exact .inl h
  .subst h;exact .inr ⟨x,by rw [aK];exact fun z=>nomatch z⟩⟩
theorem RP.grow (g:Grow F H F' H') (h:RP K F H d v):RP K F' H' d v:=RP.mono (m:=[]) g.stp h
theorem b9.grow (g:Grow F H F' H') (h:b9 K F H d v):b9 K F' H' d v:=b9.mono (m:=[]) g.stp h
theorem RP.newTup (x:H p=none) (r:b9 K F H h xs):RP K F (cf H p (.tup xs)) (.tup h) (.ref p):=⟨p,xs,rfl,.inl aK,r.grow (b0 x)⟩
theorem RP.newLst (x:H p=none) (r:b9 K F H h xs):RP K (fun b=>F b\/b=p) (cf H p (.lst xs)) (.lst h) (.ref p):=⟨p,xs,rfl,⟨.inr rfl,aK⟩,r.grow (bP x)⟩
end
noncomputable def vC (v:P):EV:=fun _ S=>some (v,S)
noncomputable def aa (i:Nat):EE:=fun L S=>match L[i]? with
 | some (some d)=>some (d,S)
 | _=>none
noncomputable def vE (f:EE):EV:=fun L S=>aH (f L S) (toP 9)
noncomputable def eV (f:EV):EE:=fun L S=>aH (f L S) fun v h=>some (.p v,h)
noncomputable def ac (g:P->P->Option P) (a b:EV):EV:=fun L S=>aH (a L S) fun x h=>aH (b L h) fun y e=>(g x y).map fun v=>(v,e)
noncomputable def CC (g:P->Option P) (a:EV):EV:=fun L S=>aH (a L S) fun x h=>(g x).map fun v=>(v,h)
noncomputable def bV (a:EV):EB:=fun L S=>aH (a L S) fun x h=>match x with
 | .bl b=>some (b,h)
 | _=>none
noncomputable def gi (a b:EB):EB:=fun L S=>aH (a L S) fun c h=>if c=true then b L h else some (false,h)
noncomputable def wv (a b:EB):EB:=fun L S=>aH (a L S) fun c h=>if c=true then some (true,h) else b L h
noncomputable def mu (a:EB):EB:=fun L S=>aH (a L S) fun c h=>some (!c,h)
noncomputable def vB (a:EB):EV:=fun L S=>aH (a L S) fun c h=>some (.bl c,h)
noncomputable def BV (c:EB) (a b:EV):EV:=fun L S=>aH (c L S) fun k h=>if k=true then a L h else b L h
noncomputable def aW:fN:=fun _ S=>some ([],S)
noncomputable def aO (a:EV) (r:fN):fN:=fun L S=>aH (a L S) fun x h=>aH (r L h) fun xs e=>some (x::xs,e)
noncomputable def ah (g:List P->Option P) (a:fN):EV:=fun L S=>aH (a L S) fun xs h=>(g xs).map fun v=>(v,h)
noncomputable def eJ:ES:=fun L S=>some (.nx,L,S)
noncomputable def ae (f g:ES):ES:=fun L S=>match f L S with
 | some (.nx,h,x)=>g h x
 | r=>r
noncomputable def au (i:Nat) (f:EE):ES:=fun L S=>aH (f L S) fun d h=>some (.nx,L.set i (some d),h)
noncomputable def aL (f:EE):ES:=fun L S=>aH (f L S) fun d h=>some (.rt d,L,h)
noncomputable def ci (f:EE):ES:=fun L S=>aH (f L S) fun _ h=>some (.nx,L,h)
noncomputable def eA (c:EB) (a b:ES):ES:=fun L S=>aH (c L S) fun k h=>if k=true then a L h else b L h
noncomputable def CZ:ES:=fun _ _=>none
noncomputable def HF:ES:=fun L S=>some (.bk,L,S)
noncomputable def HE:ES:=fun L S=>some (.ct,L,S)
noncomputable abbrev iK:=P->Lc->Option Lc
noncomputable def ak (i:Nat):iK:=fun v L=>some (L.set i (some (.p v)))
noncomputable def br (g:iK) (b:ES):List P->Lc->aF->Option (Fl×Lc×aF)
 | [],L,S=>some (.nx,L,S)
 | v::r,L,S=>match g v L with
  | none=>none
  | some a=>match b a S with
   | some (.nx,L2,h)=>br g b r L2 h
   | some (.ct,L2,h)=>br g b r L2 h
   | some (.bk,L2,h)=>some (.nx,L2,h)
   | x=>x
noncomputable def cN (i:fN) (g:iK) (b:ES):ES:=fun L S=>aH (i L S) fun xs h=>br g b xs L h
open PySem PySem.Spec PyProof.Rows L2
section
variable (K:FG)
structure RL (F:Aa) (H:Hp) (m:List Addr) (σ:L2.St) (L:Lc):Prop where
 len:σ.length=L.length
 at':∀(i:Nat) d,L[i]? = some (some d)->∃v,σ[i]? = some (some v)/\RD K F H m d v
inductive tEI (f:EE) (σ:L2.St) (H:Hp) (Q:VK):Prop
 | mk (F:Aa) (m:List Addr) (L:Lc) (S:aF) (d:D) (S':aF) (h0_:Rel K F H m S) (h1_:RL K F H m σ L) (h2_:f L S=some (d,S')) (h3_:∀v F' m' H',Stp F m H F' m' H'->Rel K F' H' m' S'->RD K F' H' m' d v->Q v H'):tEI f σ H Q
noncomputable def tE (f:EE):TE:=fun M H Q=>tEI K f M H Q
inductive tVI (f:EV) (σ:L2.St) (H:Hp) (Q:VK):Prop
 | mk (F:Aa) (m:List Addr) (L:Lc) (S:aF) (d:P) (S':aF) (h0_:Rel K F H m S) (h1_:RL K F H m σ L) (h2_:f L S=some (d,S')) (h3_:∀v F' m' H',Stp F m H F' m' H'->Rel K F' H' m' S'->RP K F' H' d v->Q v H'):tVI f σ H Q
noncomputable def tV (f:EV):TE:=fun M H Q=>tVI K f M H Q
inductive tQI (f:EB) (σ:L2.St) (H:Hp) (Q:Bool->Hp->Prop):Prop
 | mk (F:Aa) (m:List Addr) (L:Lc) (S:aF) (b:Bool) (S':aF) (h0_:Rel K F H m S) (h1_:RL K F H m σ L) (h2_:f L S=some (b,S')) (h3_:∀F' m' H',Stp F m H F' m' H'->Rel K F' H' m' S'->Q b H'):tQI f σ H Q
noncomputable def tQ (f:EB):TT:=fun M H Q=>tQI K f M H Q
inductive tVsI (f:fN) (σ:L2.St) (H:Hp) (Q:List V->Hp->Prop):Prop
 | mk (F:Aa) (m:List Addr) (L:Lc) (S:aF) (ds:List P) (S':aF) (h0_:Rel K F H m S) (h1_:RL K F H m σ L) (h2_:f L S=some (ds,S')) (h3_:∀xs F' m' H',Stp F m H F' m' H'->Rel K F' H' m' S'->b9 K F' H' ds xs->Q xs H'):tVsI f σ H Q
noncomputable def nc (f:fN):TA:=fun M H Q=>tVsI K f M H Q
noncomputable def Jj (D:Ends) (F:Aa) (m:List Addr) (M:L2.St) (H:Hp):Fl->Prop
 | .nx=>D.nx M H
 | .bk=>D.bk M H
 | .ct=>D.ct M H
 | .rt d=>∀v,RD K F H m d v->D.rt v H
inductive tStI (f:ES) (D:Ends) (σ:L2.St) (H:Hp):Prop
 | mk (F:Aa) (m:List Addr) (L:Lc) (S:aF) (fl:Fl) (L':Lc) (S':aF) (h0_:Rel K F H m S) (h1_:RL K F H m σ L) (h2_:f L S=some (fl,L',S')) (h3_:∀σ' F' m' H',Stp F m H F' m' H'->Rel K F' H' m' S'->RL K F' H' m' σ' L'->Jj K D F' m' σ' H' fl):tStI f D σ H
noncomputable def kc (f:ES):TS:=fun D M H=>tStI K f D M H
end
section
variable {K:FG}{F F':Aa}{H H':Hp}{m m':List Addr}{M:L2.St}{L:Lc}{S:aF}
theorem RL.mono (s:Stp F m H F' m' H') (h:RL K F H m M L):RL K F' H' m' M L:=⟨h.len,fun i d e=>by obtain⟨v,x,r⟩:=h.at' i d e;exact⟨v,x,RD.mono s r⟩⟩
theorem RL.set (h:RL K F H m M L) (r:RD K F H m d v) (i:Nat):RL K F H m (M.set i (some v)) (L.set i (some d)):=⟨by rw [eM,eM];exact h.len,fun j e q=>by
 by_cases x:i=j
 .subst x;by_cases a:i < L.length
  .rw [dN a] at q;cases q;exact⟨v,dN (by rw [h.len];exact a),r⟩
  .rw [List.getElem?_eq_none (by rw [eM];lia)] at q;cases q
 .rw [bx x] at q;rw [bx x];exact h.at' j e q⟩
end
section
variable {X:Cx}{e:Expr}{T:Ab}{l:Stmt}{sts:List Stmt}
theorem _root_.L2.PE.imp' (h:PE X e t) (i:∀M H Q,k M H Q->t M H Q):PE X e k:=fun p s M H Q I q=>h p s M H Q I (i M H Q q)
theorem _root_.L2.PT.imp' (h:PT X e t) (i:∀M H Q,k M H Q->t M H Q):PT X e k:=fun p s M H Q I q=>h p s M H Q I (i M H Q q)
theorem _root_.L2.PW.imp' (h:PW X e t) (i:∀M H Q,k M H Q->t M H Q):PW X e k:=fun w p s M H Q I q=>h w p s M H Q I (i M H Q q)
theorem _root_.L2.PA.imp' (h:PA X T t) (i:∀M H Q,k M H Q->t M H Q):PA X T k:=fun N p s M H Q I q=>h N p s M H Q I (i M H Q q)
theorem _root_.L2.PS.imp' (h:PS X l t) (i:∀D M H,k D M H->t D M H):PS X l k:=fun p s M H D I q=>h p s M H D I (i D M H q)
theorem _root_.L2.mw.imp' (h:mw X sts t) (i:∀D M H,k D M H->t D M H):mw X sts k:=fun p s M H D I q=>h p s M H D I (i D M H q)
end
section
variable {X:Cx}{a b c e:Expr}{T:Ab}{y Q:EV}{fe:EE}{N:Pos}
theorem IF (h:PE X e (tE X.K fe)):PE X e (tV X.K (vE fe)):=h.imp' fun M H Q z=>by obtain⟨F,m,L,S,d,O,r,l,q,k⟩:=z;obtain⟨a,x,n,f⟩:=af q;refine⟨F,m,L,S,a,x,r,l,n,fun v F' m' H' s b t=>?_⟩;obtain⟨B,w,c,_,p⟩:=na 9 f b t;exact k v B m' H' (s.trans w) c p
theorem Ep (h:PE X e (tV X.K y)):PE X e (tE X.K (eV y)):=h.imp' fun M H Q z=>by obtain⟨F,m,L,S,d,O,r,l,q,k⟩:=z;obtain⟨x,c,a,n⟩:=af q;cases n;exact⟨F,m,L,S,x,O,r,l,a,fun v F' m' H' s f b=>k v F' m' H' s f b⟩
theorem IE (i:Nat) (s:X.N[i]? = some x:=by rfl) (n:Ek X.env.scope x:=by first | exact Or.inl rfl | exact Or.inr (Or.inl rfl) | exact Or.inr (Or.inr rfl)) (hd:(x == ("__debug__":Str))=false:=by decide)
  (h:(x == ("__classdict__":Str))=false:=by decide):PE X (.Name x N) (tE X.K (aa i)):=(yw s n hd h).imp' fun M H Q z=>by
 obtain⟨F,m,L,S,d,O,r,l,q,k⟩:=z;unfold aa at q;split at q
 .rename_i b e;cases q;obtain⟨v,a,f⟩:=l.at' i _ e;exact⟨v,a,k v F m H .refl r f⟩
 .cases q
theorem xC (h:PE X e (tC v)) (r:∀F H,RP X.K F H d v):PE X e (tV X.K (vC d)):=h.imp' fun M H Q z=>by obtain⟨F,m,L,S,a,O,x,l,q,k⟩:=z;cases q;exact k v F m H .refl x (r F H)
theorem IS {i h N}:PE X (.Constant (.int i) h N) (tV X.K (vC (.int i))):=xC Dk fun _ _=>rfl
theorem KP {i h N}:PE X (.Constant (.bool i) h N) (tV X.K (vC (.bl i))):=xC FU fun _ _=>rfl
theorem IL {h N}:PE X (.Constant .none h N) (tV X.K (vC .non)):=xC Dj fun _ _=>rfl
theorem IH {i h N}:PE X (.Constant (.str i) h N) (tV X.K (vC (.str i))):=xC Dg fun _ _=>rfl
inductive rPI (K:FG) (g:P->P->Option P) (x:V) (y:V) (H:Hp) (Q:VK):Prop
 | mk (F:Aa) (dx:P) (dy:P) (d:P) (h0_:(∀a,F a->H a≠none)) (h1_:RP K F H dx x) (h2_:RP K F H dy y) (h3_:g dx dy=some d) (h4_:∀v F' H',Grow F H F' H'->RP K F' H' d v->Q v H'):rPI K g x y H Q
noncomputable def rP (K:FG) (g:P->P->Option P):R2:=fun x y H Q=>rPI K g x y H Q
noncomputable def mx (X:Cx) (f:Value->Value->Sem Value) (g:P->P->Option P):Prop:=g9 X f (rP X.K g)
theorem qj (h:tV X.K (ac g y Q) M H t):CM (rP X.K g) (tV X.K y) (tV X.K Q) M H t:=by
 obtain⟨F,m,L,S,d,O,r,l,q,k⟩:=h;obtain⟨x,s,o,q⟩:=af q;obtain⟨a,j,K,q⟩:=af q;refine⟨F,m,L,S,x,s,r,l,o,fun v C P I b J D=>?_⟩;refine⟨C,P,L,s,a,j,J,l.mono b,K,fun u B A Y c f E=>?_⟩;cases e:g x a with
 | none=>rw [e] at q;cases q
 | some z=>rw [e] at q;cases q;refine⟨B,x,a,_,f.ft,RP.mono c D,E,e,fun w p i n G=>?_⟩;exact k w p A i (b.trans (c.trans n.stp)) (f.grow n) G
theorem KL (o:mx X (binaryOp k) g) (x:PE X a (tV X.K y)) (e:PE X b (tV X.K Q)):PE X (.BinOp a k b N) (tV X.K (ac g y Q)):=
 (FT o x e).imp' fun _ _ _ h=>qj h
theorem IU (o:mx X (compareOp k) g) (x:PE X a (tV X.K y)) (e:PE X b (tV X.K Q)) (m:behindInMarks k b=false):PE X (.Compare a [k] [b] N) (tV X.K (ac g y Q)):=
 (vP o x e m).imp' fun _ _ _ h=>qj h
theorem x5 (h:tQ X.K (bV (ac g y Q)) M H t):x6 (CM (rP X.K g) (tV X.K y) (tV X.K Q)) M H t:=by
 refine qj ?_;obtain⟨F,m,L,S,d,O,r,l,q,k⟩:=h;obtain⟨x,n,e,q⟩:=af q;cases x with
 | bl b=>cases q;exact⟨F,m,L,S,_,_,r,l,e,fun v F' m' H' s a p=>⟨_,p,k F' m' H' s a⟩⟩
 | _=>cases q
theorem IC (o:mx X (compareOp k) g) (x:PE X a (tV X.K y)) (e:PE X b (tV X.K Q)) (m:behindInMarks k b=false):PT X (.Compare a [k] [b] N) (tQ X.K (bV (ac g y Q))):=
 (vL o x e m).imp' fun _ _ _ h=>x5 h
variable {z qb:EB}{cj:Ab}
theorem EZ (h:PT X a (tQ X.K z)):PW X (.BoolOp .And [a] N) (tQ X.K z):=AM h
theorem Iz (h:PT X a (tQ X.K z)):PW X (.BoolOp .Or [a] N) (tQ X.K z):=C3 h
theorem ID (n:PT X a (tQ X.K z)) (f:PW X (.BoolOp .And (b::cj) N) (tQ X.K qb)):PW X (.BoolOp .And (a::b::cj) N) (tQ X.K (gi z qb)):=
 (C4 n f).imp' fun M H Q t=>by
  obtain⟨F,m,L,S,d,O,r,l,q,k⟩:=t;obtain⟨c,h,e,q⟩:=af q;refine⟨F,m,L,S,c,h,r,l,e,fun F' m' H' s x=>?_⟩;cases c with
  | true=>rw [if_pos rfl] at q ⊢;exact⟨F',m',L,h,d,O,x,l.mono s,q,fun B p Y w v=>k B p Y (s.trans w) v⟩
  | false=>rw [if_neg bO] at q ⊢;cases q;exact k F' m' H' s x
theorem KI (n:PT X a (tQ X.K z)) (f:PW X (.BoolOp .Or (b::cj) N) (tQ X.K qb)):PW X (.BoolOp .Or (a::b::cj) N) (tQ X.K (wv z qb)):=
 (FP n f).imp' fun M H Q t=>by
  obtain⟨F,m,L,S,d,O,r,l,q,k⟩:=t;obtain⟨c,h,e,q⟩:=af q;refine⟨F,m,L,S,c,h,r,l,e,fun F' m' H' s x=>?_⟩;cases c with
  | false=>rw [if_neg bO] at q ⊢;exact⟨F',m',L,h,d,O,x,l.mono s,q,fun B p Y w v=>k B p Y (s.trans w) v⟩
  | true=>rw [if_pos rfl] at q ⊢;cases q;exact k F' m' H' s x
theorem IA (h:PT X a (tQ X.K z)):PT X (.UnaryOp .Not a N) (tQ X.K (mu z)):=
 (C5 h).imp' fun M H Q x=>by obtain⟨F,m,L,S,d,O,r,l,q,k⟩:=x;obtain⟨c,f,e,q⟩:=af q;cases q;exact⟨F,m,L,S,c,O,r,l,e,fun F' m' H' s n=>k F' m' H' s n⟩
theorem Fa {k} (h:PE X a (tV X.K (vB z))):PE X (.BoolOp k [a] N) (tV X.K (vB z)):=Dh h
theorem sd (h:tQ X.K z M H k) (x:∀b H',k b H'->t (.bl b) H'):tV X.K (vB z) M H t:=by obtain⟨F,m,L,S,d,O,r,l,q,a⟩:=h;exact⟨F,m,L,S,.bl d,O,r,l,by unfold vB;rw [q];rfl,fun v F' m' H' s e p=>by rw [show v=.bl d from p];exact x _ _ (a F' m' H' s e)⟩
theorem vQ (h:tV X.K (vB z) M H k):tQ X.K z M H fun b H'=>k (.bl b) H':=by obtain⟨F,m,L,S,d,O,r,l,q,x⟩:=h;obtain⟨c,n,e,q⟩:=af q;cases q;exact⟨F,m,L,S,c,O,r,l,e,fun F' m' H' s a=>x _ F' m' H' s a rfl⟩
theorem IW (f:PE X a (tV X.K (vB z))) (t:PE X (.BoolOp .And (b::cj) N) (tV X.K (vB qb))):PE X (.BoolOp .And (a::b::cj) N) (tV X.K (vB (gi z qb))):=
 (Dm f t).imp' fun M H Q h=>by
  obtain⟨F,m,L,S,d,O,r,l,q,k⟩:=vQ h;obtain⟨c,x,n,q⟩:=af q;refine sd (k:=fun c I=>if c=true then tV X.K (vB qb) M I Q else Q (.bl false) I) ⟨F,m,L,S,c,x,r,l,n,fun F' m' H' s e=>?_⟩ fun b H' q=>⟨b,rfl,q⟩;cases c with
  | true=>rw [if_pos rfl] at q ⊢;exact sd (k:=fun b Y=>Q (.bl b) Y) ⟨F',m',L,x,d,O,e,l.mono s,q,fun B p Y w v=>k B p Y (s.trans w) v⟩ fun _ _ q=>q
  | false=>rw [if_neg bO] at q ⊢;cases q;exact k F' m' H' s e
theorem KJ (f:PE X a (tV X.K (vB z))) (t:PE X (.BoolOp .Or (b::cj) N) (tV X.K (vB qb))):PE X (.BoolOp .Or (a::b::cj) N) (tV X.K (vB (wv z qb))):=
 (FS f t).imp' fun M H Q h=>by
  obtain⟨F,m,L,S,d,O,r,l,q,k⟩:=vQ h;obtain⟨c,x,n,q⟩:=af q;refine sd (k:=fun c I=>if c=true then Q (.bl true) I else tV X.K (vB qb) M I Q) ⟨F,m,L,S,c,x,r,l,n,fun F' m' H' s e=>?_⟩ fun b H' q=>⟨b,rfl,q⟩;cases c with
  | false=>rw [if_neg bO] at q ⊢;exact sd (k:=fun b Y=>Q (.bl b) Y) ⟨F',m',L,x,d,O,e,l.mono s,q,fun B p Y w v=>k B p Y (s.trans w) v⟩ fun _ _ q=>q
  | true=>rw [if_pos rfl] at q ⊢;cases q;exact k F' m' H' s e
theorem IK (x:PE X a (tV X.K (vB z))):PE X (.UnaryOp .Not a N) (tV X.K (vB (mu z))):=
 (Di x).imp' fun M H Q h=>by obtain⟨F,m,L,S,d,O,r,l,q,k⟩:=vQ h;obtain⟨c,f,e,q⟩:=af q;cases q;exact sd (k:=fun b H'=>Q (.bl (!b)) H') ⟨F,m,L,S,c,O,r,l,e,fun F' m' H' s n=>k F' m' H' s n⟩ fun b H' q=>⟨b,rfl,q⟩
theorem vl (h:PE X e (tV X.K y)):PE X e (tV X.K (vB (bV y))):=h.imp' fun M H Q h=>by
 obtain⟨F,m,L,S,d,O,r,l,q,k⟩:=vQ h;obtain⟨x,f,a,q⟩:=af q;cases x with
 | bl b=>cases q;exact⟨F,m,L,S,_,_,r,l,a,fun v F' m' H' s n p=>by cases (show v=.bl d from p);exact k F' m' H' s n⟩
 | _=>cases q
theorem KO (g:PT X c (tQ X.K z)) (w:PE X a (tV X.K y)) (u:PE X b (tV X.K Q)):PE X (.IfExp c a b N) (tV X.K (BV z y Q)):=
 (yB g w u).imp' fun M H h i=>by
  obtain⟨F,m,L,S,d,O,r,l,q,k⟩:=i;obtain⟨c,x,p,q⟩:=af q;refine⟨F,m,L,S,c,x,r,l,p,fun F' m' H' s t=>?_⟩;cases c with
  | true=>rw [if_pos rfl] at q ⊢;exact⟨F',m',L,x,d,O,t,l.mono s,q,fun v B e Y f n=>k v B e Y (s.trans f) n⟩
  | false=>rw [if_neg bO] at q ⊢;exact⟨F',m',L,x,d,O,t,l.mono s,q,fun v B e Y f n=>k v B e Y (s.trans f) n⟩
variable {fs:fN}
theorem Ej:PA X [] (nc X.K aW):=gA.imp' fun M H Q h=>by obtain⟨F,m,L,S,d,O,r,l,q,k⟩:=h;cases q;exact k [] F m H .refl r rfl
theorem Ch (b:PE X e (tV X.K y)) (c:PA X T (nc X.K fs)) (t:starEach (e::T) X.env=(false,eval e X.env)::starEach T X.env:=by rfl):PA X (e::T) (nc X.K (aO y fs)):=
 (dJ b c t).imp' fun M H Q z=>by obtain⟨F,m,L,S,d,O,r,l,q,k⟩:=z;obtain⟨x,h,n,q⟩:=af q;obtain⟨xs,o,f,q⟩:=af q;cases q;refine⟨F,m,L,S,x,h,r,l,n,fun v C p I s i u=>?_⟩;refine⟨C,p,L,h,xs,O,i,l.mono s,f,fun U B w Y a j g=>?_⟩;exact k (v::U) B w Y (s.trans a) j ⟨v,U,rfl,RP.mono a u,g⟩
noncomputable def few (xs:List q):Bool:=decide (xs.length≤1000000)
theorem j5 {q:Type}{xs:List q} (h:few xs=true):xs.length≤sizeLine:=aQ (of_decide_eq_true h) (by decide)
noncomputable def aD (a:fN):EV:=fun L S=>aH (a L S) fun xs h=>if few xs=true then some (.tup xs,h) else none
noncomputable def a_ (a:fN):EV:=fun L S=>aH (a L S) fun xs h=>if few xs=true then some (.lst xs,h) else none
noncomputable def cS (a:fN):EE:=fun L S=>aH (a L S) fun xs h=>if few xs=true then some (.ref h.length,h++[.lst (xs.map .p)]) else none
theorem IG {t} (h:PA X T (nc X.K fs)):PE X (.Tuple T t N) (tV X.K (aD fs)):=(qt h).imp' fun M H Q z=>by
 obtain⟨F,m,L,S,d,O,r,l,q,k⟩:=z;obtain⟨xs,c,e,q⟩:=af q;split at q
 .rename_i f;cases q;refine⟨F,m,L,S,xs,O,r,l,e,fun U C s I b n a=>⟨by rw [<- a.length];exact j5 f,fun p x=>?_⟩⟩;exact k (.ref p) C s _ (b.trans (b0 x).stp) (n.grow (b0 x)) (.newTup x a)
 .cases q
theorem IN (h:PA X T (nc X.K fs)):PE X (.List T N) (tV X.K (a_ fs)):=(yz h).imp' fun M H Q z=>by
 obtain⟨F,m,L,S,d,O,r,l,q,k⟩:=z;obtain⟨xs,c,e,q⟩:=af q;split at q
 .rename_i f;cases q;refine⟨F,m,L,S,xs,O,r,l,e,fun U C s I b n a=>⟨by rw [<- a.length];exact j5 f,fun p x=>?_⟩⟩;exact k (.ref p) _ s _ (b.trans (bP x).stp) (n.grow (bP x)) (.newLst x a)
 .cases q
theorem BS (h:PA X T (nc X.K fs)):PE X (.List T N) (tE X.K (cS fs)):=(yz h).imp' fun M H Q z=>by
 obtain⟨F,m,L,S,d,O,r,l,q,k⟩:=z;obtain⟨xs,f,b,q⟩:=af q;split at q
 .rename_i c;cases q;refine⟨F,m,L,S,xs,f,r,l,b,fun U C x I t s e=>⟨by rw [<- e.length];exact j5 c,fun p a=>?_⟩⟩;have n:Stp C x I C (x++[p]) (cf I p (.lst U)):=fZ a;refine k (.ref p) C (x++[p]) _ (t.trans n) (s.own a ⟨U,aK,dc.ofP (b9.mono n e)⟩) ⟨p,rfl,?_⟩;rw [<- s.len,fQ (Nat.le_refl _)];simp
 .cases q
noncomputable def rC (K:FG) (g:List P->Option P):List V->Hp->VK->Prop:=fun xs H Q=>∃F s d,(∀a,F a->H a≠none)/\b9 K F H s xs/\g s=some d/\∀v F' H',Grow F H F' H'->RP K F' H' d v->Q v H'
theorem uv (h:tV X.K (ah g fs) M H t):nc X.K fs M H fun U I=>rC X.K g U I t:=by
 obtain⟨F,m,L,S,d,O,r,l,q,k⟩:=h;obtain⟨xs,c,s,q⟩:=af q;cases e:g xs with
 | none=>rw [e] at q;cases q
 | some z=>rw [e] at q;cases q;exact⟨F,m,L,S,xs,_,r,l,s,fun U C n I b a f=>⟨C,xs,_,a.ft,f,e,fun v B Y x p=>k v B n Y (b.trans x.stp) (a.grow x) p⟩⟩
theorem um {x:Str}{p:Pos}{id:String}{g:List P->Option P} (c:cJ X (.builtin id) (rC X.K g)) (n:Gl X x) (m:X.mg x=none) (v:bootBuiltins x=some (.builtin id)) (a:PA X (e::T) (nc X.K fs)) (k:x≠"__name__":=by decide) (d:(x == ("__debug__":Str))=false:=by decide)
  (s:starEach (e::T) X.env=(false,eval e X.env)::starEach T X.env:=by rfl) (l:(backTo N (starEach T X.env)).any (·.1)=false:=by rfl):PE X (.Call (.Name x p) (e::T) [] N) (tV X.K (ah g fs)):=
 (kn c n m v a k d s l).imp' fun _ _ _ h=>uv h
theorem ul (c:cJ X (.type k) (rC X.K g)) (n:Gl X x) (m:X.mg x=none) (v:bootBuiltins x=some (.type k)) (a:PA X (e::T) (nc X.K fs)) (f:x≠"__name__":=by decide) (d:(x == ("__debug__":Str))=false:=by decide)
  (s:starEach (e::T) X.env=(false,eval e X.env)::starEach T X.env:=by rfl) (l:(backTo N (starEach T X.env)).any (·.1)=false:=by rfl):PE X (.Call (.Name x p) (e::T) [] N) (tV X.K (ah g fs)):=
 (lm c n m v a f d s l).imp' fun _ _ _ h=>uv h
noncomputable def Hz (K:FG) (g:List P->Option P):Sp:=fun U H Q _=>rC K g U H Q
theorem E_ (G:FnOk X.prog X.w X.K X.mg X.base pG k f t ps (Hz X.K g)) (j:Room k X.A) (w:Gl X x) (i:X.mg x=some (.ref f)) (u:PySem.W.keepIn X.K (.ref f)=true) (c:Binds X.K t ps [])
  (b:PA X (e::T) (nc X.K fs)) (d:(x == ("__debug__":Str))=false:=by decide) (v:starEach (e::T) X.env=(false,eval e X.env)::starEach T X.env:=by rfl) (a:(backTo N (starEach T X.env)).any (·.1)=false:=by rfl) :
  PE X (.Call (.Name x p) (e::T) [] N) (tV X.K (ah g fs)):=
 (qu G j w i u c .nil o5 b d v a).imp' fun M H Q h=>by obtain⟨F,m,L,S,n,O,r,l,q,k⟩:=uv h;exact⟨F,m,L,S,n,O,r,l,q,fun xs F' m' H' s y p=>by show Hz X.K g (xs++[]) H' Q E0;rw [List.append_nil];exact k xs F' m' H' s y p⟩
end
section
variable {X:Cx}{a b e:Expr}{l:Stmt}{cj bs cs:List Stmt}{f g:ES}{fe:EE}{z:EB}{N:Pos}
theorem Ix:mw X [] (kc X.K eJ):=AO.imp' fun D M H h=>by obtain⟨F,m,L,S,f,x,O,r,l,q,k⟩:=h;cases q;exact k M F m H .refl r l
theorem EW (y:PS X l (kc X.K f)) (z:mw X cj (kc X.K g)):mw X (l::cj) (kc X.K (ae f g)):=(yn y z).imp' fun D M H o=>by
 obtain⟨F,m,L,S,u,w,O,r,h,q,k⟩:=o;cases e:f L S with
 | none=>rw [show ae f g L S=none by unfold ae;rw [e]] at q;cases q
 | some x=>
  obtain⟨i,p,v⟩:=x;cases i with
  | nx=>
   have b:g p v=some (u,w,O):=by have:=q;unfold ae at this;rw [e] at this;exact this
   exact⟨F,m,L,S,.nx,p,v,r,h,e,fun a C n I t c s=>⟨C,n,p,v,u,w,O,c,s,b,fun j B P Y E A K=>k j B P Y (t.trans E) A K⟩⟩
  | rt d=>
   have b:some (Fl.rt d,p,v)=some (u,w,O):=by have:=q;unfold ae at this;rw [e] at this;exact this
   cases b;exact⟨F,m,L,S,_,_,_,r,h,e,fun a C n I t c s=>k a C n I t c s⟩
  | bk=>
   have b:some (Fl.bk,p,v)=some (u,w,O):=by have:=q;unfold ae at this;rw [e] at this;exact this
   cases b;exact⟨F,m,L,S,_,_,_,r,h,e,fun a C n I t c s=>k a C n I t c s⟩
  | ct=>
   have b:some (Fl.ct,p,v)=some (u,w,O):=by have:=q;unfold ae at this;rw [e] at this;exact this
   cases b;exact⟨F,m,L,S,_,_,_,r,h,e,fun a C n I t c s=>k a C n I t c s⟩
theorem Iw (h:PS X l (kc X.K f)):mw X [l] (kc X.K f):=AN h
theorem Iu (h:PE X e (tE X.K fe)):PS X (.Return (some e) N) (kc X.K (aL fe)):=(C7 h).imp' fun D M H z=>by obtain⟨F,m,L,S,b,n,O,r,l,q,k⟩:=z;obtain⟨d,f,x,q⟩:=af q;cases q;exact⟨F,m,L,S,d,O,r,l,x,fun v F' m' H' s a p=>k M F' m' H' s a (l.mono s) v p⟩
theorem EU (h:PE X e (tE X.K fe)) (a:swapsWith e none N.line X.env=pure false:=by rfl):PS X (.Expr e N) (kc X.K (ci fe)):=(AQ h a).imp' fun D M H z=>by obtain⟨F,m,L,S,c,f,O,r,l,q,k⟩:=z;obtain⟨d,b,x,q⟩:=af q;cases q;exact⟨F,m,L,S,d,O,r,l,x,fun v F' m' H' s n p=>k M F' m' H' s n (l.mono s)⟩
theorem Ak (i:Nat) (n:X.N.Nodup) (h:PE X e (tE X.K fe)) (b:X.N[i]? = some x:=by rfl) (w:Loc X.env.scope x:=by first | exact Or.inl rfl | exact Or.inr rfl) (c:swapsWith e (some (.Name x t)) N.line X.env=pure false:=by rfl)
  (f:X.fn x=true\/X.env.scope.names.lookup x=some .local:=by first | exact .inl rfl | exact .inr rfl | assumption):PS X (.Assign [.Name x t] e N) (kc X.K (au i fe)):=
 (C6 n b w h c f).imp' fun D M H z=>by obtain⟨F,m,L,S,y,g,O,r,l,q,k⟩:=z;obtain⟨d,j,a,q⟩:=af q;cases q;exact⟨F,m,L,S,d,O,r,l,a,fun v F' m' H' s u p=>k (M.set i (some v)) F' m' H' s u ((l.mono s).set p i)⟩
theorem KE (i:PT X c (tQ X.K z)) (w:mw X bs (kc X.K f)) (u:mw X cs (kc X.K g)):PS X (.If c bs cs N) (kc X.K (eA z f g)):=(FQ i w u).imp' fun D M H j=>by
 obtain⟨F,m,L,S,p,t,O,r,l,q,k⟩:=j;obtain⟨c,x,d,q⟩:=af q;refine⟨F,m,L,S,c,x,r,l,d,fun F' m' H' s v=>?_⟩;cases c with
 | true=>rw [if_pos rfl] at q ⊢;exact⟨F',m',L,x,p,t,O,v,l.mono s,q,fun h B e Y b n a=>k h B e Y (s.trans b) n a⟩
 | false=>rw [if_neg bO] at q ⊢;exact⟨F',m',L,x,p,t,O,v,l.mono s,q,fun h B e Y b n a=>k h B e Y (s.trans b) n a⟩
theorem KH:PS X (.Break N) (kc X.K HF):=yo.imp' fun D M H h=>by obtain⟨F,m,L,S,f,x,O,r,l,q,k⟩:=h;cases q;exact k M F m H .refl r l
theorem KG:PS X (.Continue N) (kc X.K HE):=sv.imp' fun D M H h=>by obtain⟨F,m,L,S,f,x,O,r,l,q,k⟩:=h;cases q;exact k M F m H .refl r l
inductive gTI (K:FG) (g:iK) (x:V) (σ:L2.St) (H:Hp) (Q:L2.St->Hp->Prop):Prop
 | mk (F:Aa) (m:List Addr) (L:Lc) (v:P) (L':Lc) (h0_:RL K F H m σ L) (h1_:RP K F H v x) (h2_:g v L=some L') (h3_:∀σ',RL K F H m σ' L'->Q σ' H):gTI K g x σ H Q
noncomputable def gT (K:FG) (g:iK):TG:=fun x M H Q=>gTI K g x M H Q
theorem _root_.L2.PG.imp' (h:PG X J t) (i:∀v M H Q,k v M H Q->t v M H Q):PG X J k:=fun p s M H v u Q I r q=>h p s M H v u Q I r (i v M H Q q)
theorem D6 (i:Nat) (h:X.N.Nodup) (a:X.N[i]? = some x:=by rfl) (e:Loc X.env.scope x:=by first | exact Or.inl rfl | exact Or.inr rfl) (f:X.fn x=true\/X.env.scope.names.lookup x=some .local:=by first | exact .inl rfl | exact .inr rfl | assumption) :
  PG X (.Name x N) (gT X.K (ak i)):=(AY h a e f).imp' fun v M H Q z=>by
 obtain⟨F,m,L,d,s,l,p,q,k⟩:=z;cases q;exact k _ (l.set (d:=.p d) p i)
noncomputable def Ck (K:FG) (J:It) (U:List P) (F:Aa) (m:List Addr) (H:Hp):Prop:=∀B e Y,Stp F m H B e Y ->
 (∀(i:Nat) v,U[i]? = some v->J.go i Y/\∀x h,J.yld i Y x h->∃a,Grow B Y a h/\RP K a h v x)/\J.stop U.length Y
inductive tII (K:FG) (f:fN) (σ:L2.St) (H:Hp) (R:It->Hp->Prop):Prop
 | mk (F:Aa) (m:List Addr) (L:Lc) (S:aF) (vs:List P) (S':aF) (h0_:Rel K F H m S) (h1_:RL K F H m σ L) (h2_:f L S=some (vs,S')) (h3_:∀J F' m' H',Stp F m H F' m' H'->Rel K F' H' m' S'->Ck K J vs F' m' H'->R J H'):tII K f σ H R
noncomputable def tI (K:FG) (f:fN):TI:=fun M H R=>tII K f M H R
theorem Iy {tg iter:Expr}{fi:fN}{g:iK}{b:List Stmt}{Q:ES} (hp:PassesOwn (model X.prog X.w) X.A X.env X.xe) (hc:X.calm=true) (hi:PI X tg iter (tI X.K fi)) (hg:PG X tg (gT X.K g)) (hb:mw X b (kc X.K Q))
  (hs:∀x,foldedSetIterable iter X.env x=pure x:=by intro _;rfl):PS X (.For tg iter b [] N) (kc X.K (cN fi g Q)):=
 (C8 hp hc hi hg hb hs).imp' fun D M H hz=>by
  obtain⟨F,m,L,S,fl,L',O,r,l,q,k⟩:=hz;obtain⟨U,S1,e1,q⟩:=af q;refine⟨F,m,L,S,U,S1,r,l,e1,fun J C K I E r1 it=>?_⟩;refine⟨fun i n f Y=>n=U.length-i/\i≤U.length/\∃B a L2 s,Stp C K I B a Y/\Rel X.K B Y a s/\RL X.K B Y a f L2/\br g Q (U.drop i) L2 s=some (fl,L',O),
   ⟨U.length,rfl,Nat.zero_le _,C,K,L,S1,.refl,r1,l.mono E,by rw [pH];exact q⟩,?_⟩
  rintro i n f Y ⟨rfl,hi,B,a,L2,s,s2,r2,l2,h⟩;obtain⟨go,o⟩:=it B a Y s2;by_cases t:i < U.length
  .right;have hv:U[i]? = some U[i]:=by simp [t]
   rw [List.drop_eq_getElem_cons t] at h;obtain⟨hgo,hy⟩:=go i _ hv;refine⟨hgo,fun v c=>∃n',n' < U.length-i/\(n'=U.length-(i+1)/\i+1≤U.length/\∃B a L2 s,Stp C K I B a c/\Rel X.K B c a s/\RL X.K B c a v L2/\br g Q (U.drop (i+1)) L2 s=some (fl,L',O)),fun _ _ z=>z,fun x c y=>?_⟩;obtain⟨T,gr,p3⟩:=hy x c y;unfold br at h;cases eg:g U[i] L2 with
   | none=>rw [eg] at h;cases h
   | some V=>
    rw [eg] at h;dsimp only at h;refine⟨T,a,L2,U[i],V,l2.mono gr.stp,p3,eg,fun v l3=>?_⟩;have G:Stp C K I T a c:=s2.trans gr.stp;have r3:=r2.grow gr;cases eb:Q V s with
    | none=>rw [eb] at h;cases h
    | some z=>
     obtain⟨p,W,Z⟩:=z;rw [eb] at h;refine⟨T,a,V,s,p,W,Z,r3,l3,eb,fun w u P H4 R A j=>?_⟩;cases p with
     | nx=>exact⟨U.length-(i+1),by lia,rfl,t,u,P,W,Z,G.trans R,A,j,h⟩
     | ct=>exact⟨U.length-(i+1),by lia,rfl,t,u,P,W,Z,G.trans R,A,j,h⟩
     | bk=>cases h;exact k w u P H4 (E.trans (G.trans R)) A j
     | rt d=>cases h;exact k w u P H4 (E.trans (G.trans R)) A j
  .left;have e:i=U.length:=by lia
   subst e;rw [p7] at h;cases h;exact⟨o,k f B a Y (E.trans s2) r2 l2⟩
end
theorem Stp.toGrow (s:Stp F [] H F' m' H') (f:∀a,F' a->H' a≠none):Grow F H F' H':=
 ⟨fun b o h=>s.oth b o h (by simp),s.frz,fun b h=>by
  rcases s.nf b h with q | q | q
  .exact .inl q
  .exact .inr ⟨q,f b h⟩
  .simp at q⟩
theorem jK {q:Prop}{β:Type}{d:β} (h:(none:Option β)=some d):q:=nomatch h
noncomputable def fS (n:Nat):Bool:=decide (n≤1000000)
theorem gh (h:fS n=true):n≤sizeLine:=aQ (of_decide_eq_true h) (by decide)
section
variable {X:Cx}
noncomputable def rF:P->P->Option P
 | .int i,.int j=>some (.int (i+j))
 | .str x,.str y=>if fS (x.length+y.length)=true then some (.str (x++y)) else none
 | .tup xs,.tup s=>if (!xs.isEmpty && fS (xs.length+s.length))=true then some (.tup (xs++s)) else none
 | .lst xs,.lst s=>if fS (xs.length+s.length)=true then some (.lst (xs++s)) else none
 | _,_=>none
theorem Gd:mx X (binaryOp .Add) rF:=by
 intro n s M H x y v u Q I l o h;obtain⟨F,D,t,d,G,w,g,q,k⟩:=h;cases D with
 | int i=>
  cases t with
  | int j=>cases q;cases (show x=.int i from w);cases (show y=.int j from g);exact Dt n s M H _ _ v u Q I l o ⟨i,j,rfl,rfl,k _ F H .refl rfl⟩
  | _=>exact jK q
 | str i=>
  cases t with
  | str j=>
   simp only [rF] at q;split at q
   .rename_i c;cases q;cases (show x=.str i from w);cases (show y=.str j from g);exact uG n s M H _ _ v u Q I l o ⟨i,j,rfl,rfl,gh c,k _ F H .refl rfl⟩
   .cases q
  | _=>exact jK q
 | tup A=>
  cases t with
  | tup T=>
   simp only [rF] at q;split at q
   .rename_i c;rw [Bool.and_eq_true] at c;cases q;obtain⟨a,xs,rfl,S,r⟩:=w;obtain⟨b,P,rfl,K,m⟩:=g;have B:=r.length;have C:=m.length;have E:xs≠[]:=fun z=>by
     subst z;have:A=[]:=i3 B;subst this;simp at c
    refine A5 n s M H _ _ v u Q I l o ⟨a,b,xs,P,rfl,rfl,S.sq,K.sq,E,by rw [<- B,<- C];exact gh c.2,fun z=>?_,fun _ p f=>?_⟩
    .subst z;have e:T=[]:=i3 C;subst e;refine k _ F H .refl ?_;rw [List.append_nil];exact⟨a,xs,rfl,S,r⟩
    .exact k _ F _ (b0 f) (.newTup f (r.append m))
   .cases q
  | _=>exact jK q
 | lst A=>
  cases t with
  | lst T=>
   simp only [rF] at q;split at q
   .rename_i c;cases q;obtain⟨a,xs,rfl,S,r⟩:=w;obtain⟨b,P,rfl,K,m⟩:=g;exact Ds n s M H _ _ v u Q I l o ⟨a,b,xs,P,rfl,rfl,S.2,K.2,by rw [<- r.length,<- m.length];exact gh c,fun p f=>k _ _ _ (bP f) (.newLst f (r.append m))⟩
   .cases q
  | _=>exact jK q
 | _=>exact jK q
noncomputable def Ai (c:Int->Int->Bool) (g:Int->Int->P):P->P->Option P
 | .int i,.int j=>if c i j=true then some (g i j) else none
 | _,_=>none
@[simp] theorem Bz (c:Int->Int->Bool) (g:Int->Int->P) (i j:Int):Ai c g (.int i) (.int j)=if c i j=true then some (g i j) else none:=rfl
theorem sB {f:Value->Value->Sem Value}{C:Int->Int->Prop}{a:Int->Int->V}{c:Int->Int->Bool}{g:Int->Int->P} (o:g9 X f (rI C a)) (b:∀i j,c i j=true->C i j) (m:∀K F H i j,RP K F H (g i j) (a i j)):mx X f (Ai c g):=by
 intro p s M H x y v u Q I l z h;obtain⟨F,e,n,d,S,t,w,q,k⟩:=h;cases e with
 | int i=>
  cases n with
  | int j=>
   rw [Bz] at q;split at q
   .rename_i r;cases q;cases (show x=.int i from t);cases (show y=.int j from w);exact o p s M H _ _ v u Q I l z ⟨i,j,rfl,rfl,b i j r,k _ F H .refl (m _ _ _ _ _)⟩
   .cases q
  | _=>exact jK q
 | _=>exact jK q
theorem nl (h:g9 X f (AJ k)):g9 X f (rI (fun _ _=>True) k):=fun p s M H x y v u Q I r n ⟨i,j,e,a,_,q⟩=>h p s M H x y v u Q I r n ⟨i,j,e,a,q⟩
noncomputable abbrev xQ:Int->Int->Bool:=fun _ _=>true
noncomputable abbrev tL:=Ai xQ fun i j=>.int (i-j)
theorem F0:mx X (binaryOp .Sub) tL:=sB (nl Dn) (fun _ _ _=>trivial) fun _ _ _ _ _=>rfl
noncomputable abbrev Db:Int->Int->Bool:=fun _ j=>decide (0 < j) && decide (j < 1152921504606846976)
theorem yJ:g9 X (binaryOp .FloorDiv) (rI (fun _ j=>0 < j/\j < 1152921504606846976) fun i j=>.int (i / j)):=HG fun i j _ _ _ _ _ h q=>by have a:(0:Int) < j:=h.1;have e:j < 1152921504606846976:=h.2;have x:j.natAbs.log2 < 9000:=cg ((Nat.log2_lt (by lia)).mpr (show j.natAbs < 2 ^ 60 by lia)) (by decide);exact floordiv_int (by lia) (by rw [Int.fdiv_eq_ediv_of_nonneg i (by lia)];exact q) (.inl (PyProof.noPylong_of_log2 x))
noncomputable abbrev aP:=Ai Db fun i j=>.int (i / j)
theorem A6:mx X (binaryOp .FloorDiv) aP:=sB yJ (fun i j h=>by rw [Bool.and_eq_true] at h;exact⟨of_decide_eq_true h.1,of_decide_eq_true h.2⟩) fun _ _ _ _ _=>rfl
noncomputable abbrev bb:=Ai (fun _ j=>decide (0 < j)) fun i j=>.int (i % j)
theorem F7:mx X (binaryOp .Mod) bb:=sB Dq (fun i j h=>of_decide_eq_true h) fun _ _ _ _ _=>rfl
noncomputable abbrev By:=Ai (fun i j=>decide (0≤j) && decide (j≤1000000) && decide (i.natAbs < 2 ^ 64)) fun i j=>.int (i ^ j.toNat)
theorem F4:mx X (binaryOp .Pow) By:=sB Dp (fun i j h=>by simp only [Bool.and_eq_true] at h;exact⟨of_decide_eq_true h.1.1,of_decide_eq_true h.1.2,of_decide_eq_true h.2⟩) fun _ _ _ _ _=>rfl
noncomputable abbrev Ah:=Ai xQ fun i j=>.bl (decide (i < j))
theorem Jy:mx X (compareOp .Lt) Ah:=sB (nl FW) (fun _ _ _=>trivial) fun _ _ _ _ _=>rfl
noncomputable abbrev G8:=Ai xQ fun i j=>.bl (decide (i≤j))
theorem Jz:mx X (compareOp .LtE) G8:=sB (nl FX) (fun _ _ _=>trivial) fun _ _ _ _ _=>rfl
noncomputable abbrev Cf:=Ai xQ fun i j=>.bl (decide (j < i))
theorem JA:mx X (compareOp .Gt) Cf:=sB (nl FY) (fun _ _ _=>trivial) fun _ _ _ _ _=>rfl
noncomputable abbrev G9:=Ai xQ fun i j=>.bl (decide (j≤i))
theorem JB:mx X (compareOp .GtE) G9:=sB (nl FZ) (fun _ _ _=>trivial) fun _ _ _ _ _=>rfl
noncomputable def eZ (i j:Int):Bool:=decide (i.natAbs.log2+j.natAbs.log2 < 100000000)
theorem yR {i j:Int} (h:eZ i j=true):IntMulOk i j:=by
 have a:i.natAbs.log2+j.natAbs.log2 < 100000000:=of_decide_eq_true h;have b:∀x:Int,Builtin.Int.intBits x≤x.natAbs.log2+1:=fun x=>by
  unfold Builtin.Int.intBits;split
  .exact Nat.zero_le _
  .exact Nat.le_refl _
 exact IntMulOk.of_le (b i) (b j) (by lia)
theorem A4:g9 X (binaryOp .Mult) (rI (fun i j=>IntMulOk i j) fun i j=>.int (i * j)):=HG fun _ _ _ _ _ _ _ h q=>mul_int q h
noncomputable def dA (x:Str) (n:Nat):Str:=⟨(List.replicate n x.cps).foldl (·++·) #[]⟩
theorem ux (x:Str):dA x 1=x:=by unfold dA;cases x;simp
theorem xn (n:Nat):(List.replicate n (#[]:Array Nat)).foldl (·++·) #[]=#[]:=by
 induction n with
 | zero=>rfl
 | succ n i=>rw [di,gw];simpa using i
theorem qk (x:Str) (n:Nat) (h:x.length=0):dA x n=x:=by have e:x.cps=#[]:=Array.eq_empty_of_size_eq_zero (by simpa [Str.length] using h);unfold dA;cases x;simp only at e;subst e;rw [xn]
theorem uT (a:Array Nat) (n:Nat):∀b:Array Nat,((List.replicate n a).foldl (·++·) b).size=b.size+n * a.size:=by
 induction n with
 | zero=>intro b;simp
 | succ n i=>intro b;rw [di,gw,i,Array.size_append,Nat.succ_mul];lia
theorem jI (x:Str) (n:Nat):(dA x n).length=n * x.length:=by unfold dA Str.length;simp only;rw [uT];simp
noncomputable def rD:P->P->Option P
 | .int i,.int j=>if eZ i j=true then some (.int (i * j)) else none
 | .str x,.int n=>if (fS (n.toNat * x.length) && decide (n.natAbs < 1000000))=true then some (.str (dA x n.toNat)) else none
 | .lst xs,.int n=>if (fS (xs.length * n.toNat) && decide (n.natAbs < 1000000))=true then some (.lst (List.replicate n.toNat xs).flatten) else none
 | _,_=>none
theorem b9.rep (h:b9 K F H r xs):∀k:Nat,b9 K F H (List.replicate k r).flatten (List.replicate k xs).flatten
 | 0=>rfl
 | k+1=>by rw [di,di,gY,gY];exact h.append (b9.rep h k)
theorem F6:mx X (binaryOp .Mult) rD:=by
 intro r s M H x y v u Q I o S h;obtain⟨F,B,w,d,L,g,l,q,k⟩:=h;cases B with
 | int i=>
  cases w with
  | int j=>
   simp only [rD] at q;split at q
   .rename_i c;cases q;cases (show x=.int i from g);cases (show y=.int j from l);exact A4 r s M H _ _ v u Q I o S ⟨i,j,rfl,rfl,yR c,k _ F H .refl rfl⟩
   .cases q
  | _=>exact jK q
 | str i=>
  cases w with
  | int n=>
   simp only [rD] at q;split at q
   .rename_i c;rw [Bool.and_eq_true] at c;have E:=of_decide_eq_true c.2;have N:n.toNat * i.length≤1000000:=of_decide_eq_true c.1;have R:=i7;have T:(1000000:Nat)≤sizeLine:=by decide
    cases q;cases (show x=.str i from g);cases (show y=.int n from l);obtain⟨t,rfl⟩:=o;obtain⟨U,rfl⟩:=S;refine PySem.P.mul_str (by have C:decide (n < -(2 ^ 63:Int))=false:=bv (by lia);have D:decide (n ≥ 2 ^ 63)=false:=bv (by lia);rw [C,D];rfl) (fun a b=>?_) (fun a b=>?_) ?_
    .intro z;have O:((i.length:Nat):Int)≤(2 ^ 63-1) / n:=by
      refine (Int.le_ediv_iff_mul_le (by lia)).mpr ?_;have e:((i.length:Nat):Int) * n=((n.toNat * i.length:Nat):Int):=by rw [Int.natCast_mul,Int.toNat_of_nonneg (by lia),Int.mul_comm]
      rw [e];lia
     lia
    .unfold Builtin.Str.tooLong;first
      | exact bv (by rw [mE];lia)
      | (rw [mE];exact bv (by lia))
    .have f:Q (.str (dA i n.toNat)) H:=k _ F H .refl rfl;by_cases K:n < 1
     .rw [if_pos K];have e:n.toNat=0:=by lia
      rw [e] at f;exact⟨by decide,⟨.str Str.empty,H,I.tok _,⟨_,rfl⟩,f⟩⟩
     .rw [if_neg K];by_cases m:(n == 1 || i.length == 0)=true
      .rw [if_pos m];rw [iX] at m;have e:dA i n.toNat=i:=by
        rcases m with m | m
        .have:n=1:=by simpa using m
         subst this;exact ux i
        .exact qk i _ (by simpa using m)
       rw [e] at f;exact⟨.str i,H,I,⟨_,rfl⟩,f⟩
      .rw [if_neg m];refine⟨?_,⟨.str (dA i n.toNat),H,I.tok _,⟨_,rfl⟩,f⟩⟩;have:=jI i n.toNat
       unfold dA at this;rw [this];lia
   .cases q
  | _=>exact jK q
 | lst J=>
  cases w with
  | int n=>
   simp only [rD] at q;split at q
   .rename_i c;rw [Bool.and_eq_true] at c;have E:=of_decide_eq_true c.2;cases q;obtain⟨a,xs,rfl,G,A⟩:=g;cases (show y=.int n from l);exact Do r s M H _ _ v u Q I o S ⟨a,n,xs,rfl,rfl,G.2,by lia,by lia,by rw [<- A.length];exact gh c.1,fun p P=>k _ _ _ (bP P) (.newLst P (A.rep _))⟩
   .cases q
  | _=>exact jK q
 | _=>exact jK q
noncomputable def JV:P->P->Option P
 | .int i,.int j=>some (.bl (decide (i=j)))
 | .str x,.str y=>some (.bl (decide (x=y)))
 | .bl a,.bl b=>some (.bl (decide (a=b)))
 | _,_=>none
noncomputable def Eb:P->P->Option P
 | .int i,.int j=>some (.bl (!decide (i=j)))
 | .str x,.str y=>some (.bl (!decide (x=y)))
 | .bl a,.bl b=>some (.bl (!decide (a=b)))
 | _,_=>none
theorem lW {i j:Int}:decide (V.int i=V.int j)=decide (i=j):=by
 by_cases h:i=j
 .subst h;simp
 .rw [bv h,bv fun z=>h (V.int.inj z)]
theorem lV:decide (V.str i=V.str k)=decide (i=k):=by
 by_cases h:i=k
 .subst h;simp
 .rw [bv h,bv fun z=>h (V.str.inj z)]
theorem nU:decide (V.bl i=V.bl k)=decide (i=k):=by
 by_cases h:i=k
 .subst h;simp
 .rw [bv h,bv fun z=>h (V.bl.inj z)]
theorem JC:mx X (compareOp .Eq) JV:=by
 intro p s M H x y v u Q I r f h;obtain⟨F,b,a,d,t,e,n,q,k⟩:=h;cases b with
 | int i=>
  cases a with
  | int j=>cases q;cases (show x=.int i from e);cases (show y=.int j from n);exact yK p s M H _ _ v u Q I r f ⟨rfl,by rw [lW];exact k _ F H .refl rfl⟩
  | _=>exact jK q
 | str i=>
  cases a with
  | str j=>cases q;cases (show x=.str i from e);cases (show y=.str j from n);exact yK p s M H _ _ v u Q I r f ⟨rfl,by rw [lV];exact k _ F H .refl rfl⟩
  | _=>exact jK q
 | bl i=>
  cases a with
  | bl j=>cases q;cases (show x=.bl i from e);cases (show y=.bl j from n);exact yK p s M H _ _ v u Q I r f ⟨rfl,by rw [nU];exact k _ F H .refl rfl⟩
  | _=>exact jK q
 | _=>exact jK q
theorem Jx:mx X (compareOp .NotEq) Eb:=by
 intro p s M H x y v u Q I r f h;obtain⟨F,b,a,d,t,e,n,q,k⟩:=h;cases b with
 | int i=>
  cases a with
  | int j=>cases q;cases (show x=.int i from e);cases (show y=.int j from n);exact yI p s M H _ _ v u Q I r f ⟨rfl,by rw [lW];exact k _ F H .refl rfl⟩
  | _=>exact jK q
 | str i=>
  cases a with
  | str j=>cases q;cases (show x=.str i from e);cases (show y=.str j from n);exact yI p s M H _ _ v u Q I r f ⟨rfl,by rw [lV];exact k _ F H .refl rfl⟩
  | _=>exact jK q
 | bl i=>
  cases a with
  | bl j=>cases q;cases (show x=.bl i from e);cases (show y=.bl j from n);exact yI p s M H _ _ v u Q I r f ⟨rfl,by rw [nU];exact k _ F H .refl rfl⟩
  | _=>exact jK q
 | _=>exact jK q
theorem ww {q β:Type}{xs:List q}{s:List β}{i:Int}{d:q} (l:xs.length=s.length) (h:L2.atI xs i=some d):∃j:Nat,xs[j]? = some d/\∀y,s[j]? = some y->L2.atI s i=some y:=by
 unfold L2.atI at h ⊢;rw [l] at h;cases e:xc s.length i with
 | none=>rw [e] at h;cases h
 | some j=>rw [e] at h;exact⟨j,h,fun y x=>x⟩
theorem b9.atI {K:FG}{F:Aa}{H:Hp}{s:List P}{xs:List V}{i:Int}{d:P} (r:b9 K F H s xs) (h:L2.atI s i=some d):∃x,L2.atI xs i=some x/\RP K F H d x:=by obtain⟨j,a,n⟩:=ww r.length h;obtain⟨x,e,p⟩:=r.get a;exact⟨x,n x e,p⟩
theorem dc.atI {K:FG}{F:Aa}{H:Hp}{m:List Addr}{s:List D}{xs:List V}{i:Int}{d:D} (r:dc K F H m s xs) (h:L2.atI s i=some d):∃x,L2.atI xs i=some x/\RD K F H m d x:=by obtain⟨j,a,n⟩:=ww r.length h;obtain⟨x,e,p⟩:=r.get a;exact⟨x,n x e,p⟩
noncomputable def bI (k:bC):List bC->List q->Option q
 | h::s,v::U=>if h=k then some v else bI k s U
 | _,_=>none
noncomputable def bZ:P->Option bC
 | .int i=>some (.inl i)
 | .str x=>some (.inr x)
 | _=>none
noncomputable def ar:P->P->Option P
 | .tup xs,.int i=>L2.atI xs i
 | .lst xs,.int i=>L2.atI xs i
 | .ro xs,.int i=>L2.atI xs i
 | .str x,.int i=>if fS x.length=true then (L2.atI x.cps.toList i).map fun c=>.str ⟨#[c]⟩ else none
 | .dct s U,y=>match bZ y with
  | some k=>bI k s U
  | none=>none
 | _,_=>none
theorem lg:∀{s:List (bC×V)}{a:List P}{d:P},b9 K F H a (s.map (·.2))->bI k (s.map (·.1)) a=some d->∃v,fG s k=some v/\RP K F H d v
 | [],a,d,r,h=>by cases a <;> exact jK h
 | (f,v)::s,[],d,r,h=>jK h
 | (f,v)::s,u::a,d,r,h=>by
  obtain⟨x,g,e,p,b⟩:=r;rw [List.map_cons] at e;injection e with c m;simp only [List.map_cons,bI] at h;by_cases n:f=k
  .rw [if_pos n] at h;cases h;exact⟨v,gy (p:=(f,v)) n,by rw [show v=x from c];exact p⟩
  .rw [if_neg n] at h;rw [<- m] at b;obtain⟨w,t,q⟩:=lg b h;exact⟨w,by rw [fF (p:=(f,v)) n];exact t,q⟩
theorem fH (h:bZ t=some k) (r:RP K F H t v):v=kV k:=by
 cases t with
 | int i=>cases h;exact r
 | str x=>cases h;exact r
 | _=>exact jK h
theorem y8 (r:X.A.units+1 < cLine):Ad X (fun x y H Q=>∃a v,x=.ref a/\g_ H a y (some v)/\(∃k,H a=some (.dK k))/\Q v H):=by
 intro f l p s M H x y v u Q I d i h m;obtain⟨a,w,rfl,g,⟨k,c⟩,q⟩:=h;cases d;have n:∃o,s.heap.get? a=some o/\o.ExactDict:=by obtain⟨_,_,_,_,o,_,_,e,n,_⟩:=I.hok a _ c;exact⟨o,e,n⟩
 obtain⟨o,e,n⟩:=n;exact tail_any ⟨o,e,n.1⟩ slot_dict_getitem.lookup (ph r I g i fun z j b t=>⟨w,H,b,t,q⟩) m
theorem Ke (N:X.A.units+1 < cLine):Ad X (rP X.K ar):=by
 intro f l b s M H x n v u Q I S K h g;obtain⟨F,E,t,d,R,j,o,q,k⟩:=h;cases E with
 | tup m=>
  cases t with
  | int i=>obtain⟨a,xs,rfl,P,r⟩:=j;cases (show n=.int i from o);obtain⟨z,e,p⟩:=r.atI (show L2.atI m i=some d from q);exact DY f l b s M H _ _ v u Q I S K ⟨a,xs,i,z,rfl,rfl,P.sq,e,k z F H .refl p⟩ g
  | _=>exact jK q
 | lst m=>
  cases t with
  | int i=>obtain⟨a,xs,rfl,P,r⟩:=j;cases (show n=.int i from o);obtain⟨z,e,p⟩:=r.atI (show L2.atI m i=some d from q);exact qH f l b s M H _ _ v u Q I S K ⟨a,xs,i,z,rfl,rfl,P.sq,e,k z F H .refl p⟩ g
  | _=>exact jK q
 | ro m=>
  cases t with
  | int i=>obtain⟨a,xs,rfl,P,r⟩:=j;cases (show n=.int i from o);obtain⟨z,e,p⟩:=r.atI (show L2.atI m i=some d from q);exact qH f l b s M H _ _ v u Q I S K ⟨a,xs,i,z,rfl,rfl,P.sq,e,k z F H .refl p⟩ g
  | _=>exact jK q
 | str z=>
  cases t with
  | int i=>
   cases (show x=.str z from j);cases (show n=.int i from o);simp only [ar] at q;split at q
   .rename_i L;cases e:L2.atI z.cps.toList i with
    | none=>rw [e] at q;exact jK q
    | some c=>rw [e] at q;cases q;exact DZ f l b s M H _ _ v u Q I S K ⟨z,i,c,rfl,rfl,gh L,e,k _ F H .refl rfl⟩ g
   .cases q
  | _=>exact jK q
 | dct T m=>
  obtain⟨a,C,rfl,y,D,J,r⟩:=j;simp only [ar] at q;cases A:bZ t with
  | none=>rw [A] at q;exact jK q
  | some O=>rw [A] at q;dsimp only at q;subst J;obtain⟨w,G,p⟩:=lg r q;have B:=fH A o;subst B;exact y8 N f l b s M H _ _ v u Q I S K ⟨a,w,rfl,by rw [<- G];exact g_.k D,⟨C,D⟩,k w F H .refl p⟩ g
 | _=>exact jK q
theorem KN {a b:Expr}{y Q:EV}{N:Pos} (u:X.A.units+1 < cLine) (x:PE X a (tV X.K y)) (e:PE X b (tV X.K Q)) (s:kQ b):PE X (.Subscript a b N) (tV X.K (ac ar y Q)):=
 (yA (Ke u) x e s).imp' fun _ _ _ h=>qj h
end
section
variable {X:Cx}
theorem mZ:∀{s:List (bC×V)}{a:List D}{d:D},dc K F H m a (s.map (·.2))->bI k (s.map (·.1)) a=some d->∃v,fG s k=some v/\RD K F H m d v
 | [],a,d,r,h=>by cases a <;> exact jK h
 | (f,v)::s,[],d,r,h=>jK h
 | (f,v)::s,g::a,d,r,h=>by
  obtain⟨x,i,e,p,b⟩:=r;rw [List.map_cons] at e;injection e with c t;simp only [List.map_cons,bI] at h;by_cases n:f=k
  .rw [if_pos n] at h;cases h;exact⟨v,gy (p:=(f,v)) n,by rw [show v=x from c];exact p⟩
  .rw [if_neg n] at h;rw [<- t] at b;obtain⟨w,q,u⟩:=mZ b h;exact⟨w,by rw [fF (p:=(f,v)) n];exact q,u⟩
noncomputable def tf (r:EE) (k:EV):EE:=fun L S=>aH (r L S) fun d x=>aH (k L x) fun y h=>match d with
 | .p v=>(ar v y).map fun z=>(.p z,h)
 | .ref i=>match h[i]? with
  | some (.lst s)=>(match y with
   | .int j=>(L2.atI s j).map fun z=>(z,h)
   | _=>none)
  | some (.fz v)=>(ar v y).map fun z=>(.p z,h)
  | some (.dct a U)=>(match bZ y with
   | some k=>(bI k a U).map fun z=>(z,h)
   | none=>none)
  | _=>none
theorem IR {a b:Expr}{y:EE}{Q:EV}{N:Pos} (hu:X.A.units+1 < cLine) (ha:PE X a (tE X.K y)) (hb:PE X b (tV X.K Q)) (hs:kQ b):PE X (.Subscript a b N) (tE X.K (tf y Q)):=
 (yA (((Ke hu).or qH).or (y8 hu)) ha hb hs).imp' fun M H h hz=>by
  obtain⟨F,m,L,S,d,O,r,l,q,k⟩:=hz;obtain⟨x,S1,A,q⟩:=af q;obtain⟨e,K,e2,q⟩:=af q;refine⟨F,m,L,S,x,S1,r,l,A,fun v C m1 I c r1 p1=>?_⟩;refine⟨C,m1,L,S1,e,K,r1,l.mono c,e2,fun u B R Y o f W=>?_⟩;have px:=RD.mono o p1;have s:∀w:P,RP X.K B Y w v->(ar w e).map (fun z=>(D.p z,K))=some (d,O)->rP X.K ar v u Y h:=fun w pw q=>by
   cases g:ar w e with
   | none=>rw [g] at q;cases q
   | some z=>rw [g] at q;cases q;exact⟨B,w,e,z,f.ft,pw,W,g,fun t F3 H3 gr Z=>k t F3 R H3 (c.trans (o.trans gr.stp)) (f.grow gr) Z⟩
  cases x with
  | p w=>exact .inl (.inl (s w px q))
  | ref i=>
   obtain⟨a,rfl,hm⟩:=px;dsimp only at q;cases T:K[i]? with
   | none=>rw [T] at q;cases q
   | some so=>
    rw [T] at q;have V:=f.obj i a so hm T;cases so with
    | fz w=>exact .inl (.inl (s w V q))
    | dct ks U=>
     dsimp only at q;obtain⟨n,hk,ek,ra⟩:=V;cases E:bZ e with
     | none=>rw [E] at q;cases q
     | some J=>
      rw [E] at q;dsimp only at q;subst ek;cases g:bI J (n.map (·.1)) U with
      | none=>rw [g] at q;cases q
      | some z=>rw [g] at q;cases q;obtain⟨w,A,p⟩:=mZ ra g;have G:=fH E W;subst G;exact .inr ⟨a,w,rfl,by rw [<- A];exact g_.k hk,⟨n,hk⟩,k w B R Y (c.trans o) f p⟩
    | ins _ _ _=>cases q
    | exc _=>cases q
    | dtt _ _=>cases q
    | lst ds=>
     dsimp only at q;cases e with
     | int j=>
      dsimp only at q;obtain⟨xs,hH,rs⟩:=V;cases g:L2.atI ds j with
      | none=>rw [g] at q;cases q
      | some z=>rw [g] at q;cases q;obtain⟨t,e3,Z⟩:=rs.atI g;cases (show u=.int j from W);exact .inl (.inr ⟨a,xs,j,t,rfl,rfl,gL.of hH,e3,k t B R Y (c.trans o) f Z⟩)
     | _=>cases q
noncomputable def cK:P->Option Nat
 | .tup xs=>some xs.length
 | .lst xs=>some xs.length
 | .ro xs=>some xs.length
 | .str x=>if fS x.length=true then some x.length else none
 | _=>none
noncomputable def cd:D->aF->Option Nat
 | .p v,_=>cK v
 | .ref i,S=>match S[i]? with
  | some (.lst d)=>some d.length
  | some (.fz v)=>cK v
  | _=>none
noncomputable def dR (r:EE):EV:=fun L S=>aH (r L S) fun d h=>(cd d h).map fun n=>(.int n,h)
theorem vW {F:Aa}{H:Hp}{w:P}{v:V}{n:Nat}{Q:VK} (p:RP X.K F H w v) (h:cK w=some n) (q:Q (.int n) H) :
  (∃p y,[v]=[V.ref p]/\(gL X.K H p y\/mP X.K H p y)/\Q (.int y.length) H)\/(∃z,[v]=[V.str z]/\z.length≤sizeLine/\Q (.int z.length) H):=by
 cases w with
 | tup d=>obtain⟨a,xs,rfl,t,r⟩:=p;cases h;exact .inl ⟨a,xs,rfl,.inr t.sq,by rw [<- r.length];exact q⟩
 | lst d=>obtain⟨a,xs,rfl,t,r⟩:=p;cases h;exact .inl ⟨a,xs,rfl,.inl t.sq,by rw [<- r.length];exact q⟩
 | ro d=>obtain⟨a,xs,rfl,t,r⟩:=p;cases h;exact .inl ⟨a,xs,rfl,.inl t.sq,by rw [<- r.length];exact q⟩
 | str x=>
  cases (show v=.str x from p);simp only [cK] at h;split at h
  .rename_i c;cases h;exact .inr ⟨x,rfl,gh c,q⟩
  .cases h
 | _=>exact jK h
theorem IP (K:Gl X "len") (s:X.mg "len"=none) (z:PE X e (tE X.K fe)) (b:starEach [e] X.env=[(false,eval e X.env)]:=by rfl):PE X (.Call (.Name "len" p) [e] [] N) (tV X.K (dR fe)):=
 (kn (rK.or rJ) K s PySem.boot_len (dJ z gA (by rw [b];rfl)) (by decide) (by decide) (by rw [b];rfl) rfl).imp' fun M H Q P=>by
  obtain⟨F,m,L,S,d,O,r,l,q,k⟩:=P;obtain⟨x,f,g,q⟩:=af q;refine⟨F,m,L,S,x,f,r,l,g,fun v C A I D t c=>?_⟩;cases h:cd x f with
  | none=>rw [h] at q;cases q
  | some n=>
   rw [h] at q;cases q;have y:Q (.int n) I:=k _ C A I D t rfl;cases x with
   | p w=>exact vW c h y
   | ref i=>
    obtain⟨a,rfl,s⟩:=c;simp only [cd] at h;cases T:O[i]? with
    | none=>rw [T] at h;cases h
    | some u=>
     rw [T] at h;have o:=t.obj i a u s T;cases u with
     | fz w=>exact vW o h y
     | dct G U=>cases h
     | ins _ _ _=>cases h
     | exc _=>cases h
     | dtt _ _=>cases h
     | lst E=>cases h;obtain⟨xs,j,B⟩:=o;exact .inl ⟨a,xs,rfl,.inl (gL.of j),by rw [<- B.length];exact y⟩
noncomputable def dt (d:D) (S:aF):Option (Nat×List D):=match d with
 | .ref i=>match S[i]? with
  | some (.lst s)=>some (i,s)
  | _=>none
 | _=>none
theorem kr (h:dt d S=some (i,k)):d=.ref i/\S[i]? = some (.lst k):=by
 unfold dt at h;split at h
 .split at h
  .rename_i e;cases h;exact⟨rfl,e⟩
  .cases h
 .cases h
noncomputable def bS (r:EE) (a:EE):EE:=fun L S=>aH (r L S) fun d h=>match dt d h with
 | none=>none
 | some _=>aH (a L h) fun x e=>match dt d e with
  | some (i,s)=>if few s=true then some (.p .non,e.set i (.lst (s++[x]))) else none
  | none=>none
theorem Aq {o e:Expr}{R fe:EE}{p c:Pos} (ho:PE X o (tE X.K R)) (he:PE X e (tE X.K fe)) (E:starEach [e] X.env=[(false,eval e X.env)]:=by rfl)
  (b:attributeBase o "append" X.env (eval o X.env)=eval o X.env:=by rfl) (f:(p.endLine == c.line)=true:=by rfl):PE X (.Call (.Attribute o "append" p) [e] [] c) (tE X.K (bS R fe)):=
 (B3 uh PySem.F.slot_list_append PySem.F.type_list_append o8 ho (dJ he gA (by rw [E];rfl)) b (by rw [E];rfl) f (by rw [E];rfl) rfl).imp' fun M H Q hz=>by
  obtain⟨F,m,L,S,d,O,r,h,q,k⟩:=hz;obtain⟨x,K,e1,q⟩:=af q;refine⟨F,m,L,S,x,K,r,h,e1,fun v C m1 I s1 Z W=>?_⟩;cases A:dt x K with
  | none=>rw [A] at q;cases q
  | some z=>
   obtain⟨i,ds⟩:=z;rw [A] at q;dsimp only at q;obtain⟨rfl,T⟩:=kr A;obtain⟨a,rfl,hm⟩:=id W;obtain⟨xs,hH,rs⟩:=Z.obj i a _ hm T;refine⟨.inl ⟨rfl,xs,gL.of hH⟩,?_⟩;obtain⟨y,N,e2,q⟩:=af q;refine⟨C,m1,L,K,y,N,Z,h.mono s1,e2,fun u B G Y s2 J p2=>?_⟩;cases s:dt (.ref i) N with
   | none=>rw [s] at q;cases q
   | some z=>
    obtain⟨i2,P⟩:=z;rw [s] at q;dsimp only at q;obtain⟨e3,n⟩:=kr s;cases e3;split at q
    .rename_i U;cases q;obtain⟨a2,e4,t⟩:=RD.mono s2 W;cases e4;obtain⟨w,g,j⟩:=J.obj i a _ t n;have hl:=j5 U;have D:w.length < sizeLine:=by
      have:P.length≤1000000:=of_decide_eq_true U;rw [<- j.length];exact kY this (by decide)
     have V:∀zs,Y a≠some (.tup zs):=fun zs z=>by rw [g] at z;cases z
     have l:Stp B G Y B G (cf Y a (.lst (w++[u]))):=fy J t n trivial V;refine⟨a,w,u,rfl,rfl,g,D,?_⟩;exact k .non B G _ (s1.trans (s2.trans l)) (J.set t n trivial V ⟨_,aK,dc.mono l (j.append ⟨u,[],rfl,p2,rfl⟩)⟩) rfl
    .cases q
noncomputable abbrev EO:=Lc->aF->Option (Option Int×aF)
noncomputable def gN:EO:=fun _ S=>some (none,S)
noncomputable def cy (a:EV):EO:=fun L S=>aH (a L S) fun v h=>match v with
 | .int i=>some (some i,h)
 | _=>none
inductive tOI (K:FG) (f:EO) (σ:L2.St) (H:Hp) (Q:Option Int->Hp->Prop):Prop
 | mk (F:Aa) (m:List Addr) (L:Lc) (S:aF) (b:Option Int) (S':aF) (h0_:Rel K F H m S) (h1_:RL K F H m σ L) (h2_:f L S=some (b,S')) (h3_:∀F' m' H',Stp F m H F' m' H'->Rel K F' H' m' S'->Q b H'):tOI K f σ H Q
noncomputable def tO (K:FG) (f:EO):TO:=fun M H Q=>tOI K f M H Q
theorem _root_.L2.PO.imp' (h:PO X e t) (i:∀M H Q,k M H Q->t M H Q):PO X e k:=fun p s M H Q I q=>h p s M H Q I (i M H Q q)
theorem Dz:PO X none (tO X.K gN):=AV.imp' fun M H Q h=>by obtain⟨F,m,L,S,d,O,r,l,q,k⟩:=h;cases q;exact k F m H .refl r
theorem yO (h:PE X e (tV X.K y)):PO X (some e) (tO X.K (cy y)):=(AT h).imp' fun M H Q z=>by
 obtain⟨F,m,L,S,d,O,r,l,q,k⟩:=z;obtain⟨x,b,a,q⟩:=af q;cases x with
 | int i=>cases q;exact⟨F,m,L,S,_,_,r,l,a,fun v C s I f n p=>⟨i,p,k C s I f n⟩⟩
 | _=>cases q
noncomputable def cut (xs:List q) (lo h:Option Int):List q:=(xs.drop (HT.d4 xs.length 0 lo)).take (HT.d4 xs.length xs.length h-HT.d4 xs.length 0 lo)
theorem b9.cut (r:b9 K F H k xs) (lo h:Option Int):b9 K F H (Ev.cut k lo h) (tR xs lo h):=by unfold Ev.cut tR;rw [r.length];exact (r.drop _).take _
noncomputable def Lz:P->Option Int->Option Int->Option P
 | .lst xs,lo,h=>some (.lst (cut xs lo h))
 | .ro xs,lo,h=>some (.lst (cut xs lo h))
 | .tup xs,lo,h=>if HT.d4 xs.length 0 lo=0/\HT.d4 xs.length xs.length h=xs.length then none else some (.tup (cut xs lo h))
 | _,_,_=>none
theorem _root_.L2.PI.imp' (h:PI X r iter t) (i:∀M H R,k M H R->t M H R):PI X r iter k:=fun p s M H R I q=>h p s M H R I (i M H R q)
theorem y_ (f:∀B h Y,Stp F m H B h Y->gL K Y a xs) (r:b9 K F H U xs):Ck K (Ip K a) U F m H:=by
 intro B h Y s;have q:=f B h Y s;have k:=b9.mono s r;refine⟨fun i v e=>?_,⟨xs,q,by rw [k.length];exact Nat.le_refl _⟩⟩;obtain⟨x,n,p⟩:=k.get e;refine⟨⟨xs,x,q,n⟩,fun y b z=>?_⟩;obtain⟨rfl,z⟩:=z;have:=z xs q
 rw [n] at this;cases this;exact⟨B,.refl,p⟩
theorem D1 (k:TupAt K H a xs) (r:b9 K F H U xs):Ck K (KD K a) U F m H:=by
 intro B b Y s;have q:=(k.kp s.kp).sq;have n:=b9.mono s r;refine⟨fun i v e=>?_,⟨xs,q,by rw [n.length];exact Nat.le_refl _⟩⟩;obtain⟨x,h,p⟩:=n.get e;refine⟨⟨xs,x,q,h⟩,fun y f z=>?_⟩;obtain⟨rfl,z⟩:=z;have:=z xs q
 rw [h] at this;cases this;exact⟨B,.refl,p⟩
noncomputable def intsFrom (lo:Int) (n:Nat):List P:=(List.range n).map fun (i:Nat)=>.int (lo+(i:Int))
noncomputable def g0 (a:EV):fN:=fun L S=>aH (a L S) fun v h=>match v with
 | .int j=>if decide (j.natAbs < 1000000)=true then some (intsFrom 0 j.toNat,h) else none
 | _=>none
theorem y9 {lo:Int}:Ck K (Ho lo n) (intsFrom lo n) F m H:=by
 intro B k Y s;have l:(intsFrom lo n).length=n:=by unfold intsFrom;simp
 refine⟨fun i v e=>?_,by show n≤(intsFrom lo n).length;rw [l];exact Nat.le_refl _⟩;have h:i < n:=by rw [<- l];exact (List.getElem?_eq_some_iff.mp e).1
 refine⟨h,fun x a z=>?_⟩;obtain⟨rfl,rfl⟩:=z;refine⟨B,.refl,?_⟩;unfold intsFrom at e;simp [h] at e;subst e;exact rfl
theorem K' {w a:Expr}{y:EV}{p N:Pos} (g:Gl X "range") (n:X.mg "range"=none) (s:PE X a (tV X.K y)) (h:starEach [a] X.env=[(false,eval a X.env)]:=by rfl):PI X w (.Call (.Name "range" p) [a] [] N) (tI X.K (g0 y)):=
 (wW g n (dJ s gA (by rw [h];rfl)) h).imp' fun M H R z=>by
  obtain⟨F,m,L,S,U,O,r,l,q,k⟩:=z;obtain⟨v,u,e,q⟩:=af q;cases v with
  | int j=>
   dsimp only at q;split at q
   .rename_i c;have i:j.natAbs < 1000000:=of_decide_eq_true c;cases q;refine⟨F,m,L,S,_,_,r,l,e,fun x C f I d t b=>?_⟩;cases (show x=.int j from b);exact⟨j,rfl,by lia,by lia,k _ C f I d t y9⟩
   .cases q
  | _=>cases q
end
noncomputable def bo (g:iK) (c:EB) (e:EV):List P->Lc->aF->Option (List P×aF)
 | [],_,S=>some ([],S)
 | v::r,L,S=>match g v L with
  | none=>none
  | some h=>aH (c h S) fun k x=>if k=true then aH (e h x) fun y a=>aH (bo g c e r h a) fun n s=>some (y::n,s) else bo g c e r h x
noncomputable def jC (j:List Nat) (n:Nat) (L:List (Option q)):List (Option q):=(j.foldl (fun L i=>L.set i none) L)++List.replicate n none
noncomputable def aU (i:fN) (j:List Nat) (n:Nat) (g:iK) (c:EB) (e:EV):EV:=fun L S=>aH (i L S) fun xs h=>if few xs=true then aH (bo g c e xs (jC j n L) h) fun y x=>some (.lst y,x) else none
noncomputable def dZ:EB:=fun _ S=>some (true,S)
theorem fC (j:List Nat):∀L:List (Option q),(j.foldl (fun L i=>L.set i none) L).length=L.length:=by
 induction j with
 | nil=>intro L;rfl
 | cons t j h=>intro L;rw [gw,h,eM]
theorem ov (j:List Nat):∀(L:List (Option q)) (i:Nat) (d:q),(j.foldl (fun L i=>L.set i none) L)[i]? = some (some d)->L[i]? = some (some d)/\i ∉ j:=by
 induction j with
 | nil=>intro L i d h;exact⟨h,by simp⟩
 | cons t j s=>
  intro L i d h;rw [gw] at h;obtain⟨x,a⟩:=s _ _ _ h;by_cases e:t=i
  .subst e;by_cases l:t < L.length
   .rw [dN l] at x;cases x
   .rw [List.getElem?_eq_none (by rw [eM];lia)] at x;cases x
  .rw [bx e] at x;exact⟨x,by simp [a];exact fun z=>e z.symm⟩
theorem qg (j:List Nat) (n:Nat) (L:List (Option q)):(jC j n L).length=L.length+n:=by unfold jC;rw [cV,fC,List.length_replicate]
theorem vw (h:(jC j n L)[i]? = some (some d)):L[i]? = some (some d)/\i ∉ j/\i < L.length:=by
 unfold jC at h;by_cases x:i < L.length
 .rw [List.getElem?_append_left (by rw [fC];exact x)] at h;obtain⟨a,e⟩:=ov j L i d h;exact⟨a,e,x⟩
 .rw [fQ (by rw [fC];lia),ue] at h;split at h <;> cases h
variable {M:L2.St}
theorem RL.up (l:RL K F H m M L) (j:List Nat) (n:Nat):RL K F H m (jC j n M) (jC j n L):=by
 refine⟨by rw [qg,qg,l.len],fun i d h=>?_⟩;obtain⟨a,s,f⟩:=vw h;obtain⟨v,e,r⟩:=l.at' i d a;refine⟨v,?_,r⟩;unfold jC;rw [List.getElem?_append_left (by rw [fC,l.len];exact f)];have k:∀(j:List Nat) (M:L2.St),i ∉ j->M[i]? = some (some v)->(j.foldl (fun L i=>L.set i none) M)[i]? = some (some v):=by
  intro j;induction j with
  | nil=>intro M _ e;exact e
  | cons t j b=>intro M x e;rw [gw];refine b _ (fun z=>x (aZ _ z)) ?_;rw [bx (fun z=>x (by rw [z];exact List.mem_cons_self))];exact e
 exact k j M s e
noncomputable def lH (G:Scope) (e:Env):List (Str×Addr):=((G.names.filter fun x=>x.2 == .free).map fun x=>(x.1,(e.cells.lookup x.1).getD 0)).reverse
noncomputable def inn (X:Cx) (G:Scope) (u:LS) (s:Shared) (H:Hp) (C:Addr) (f:List Addr):Cx:=
 { X with N:=u,s₀:=s,H₀:=H,env:=compEnvC G (lH G X.env) C X.env,outer:=X.stack,ex:=f,fn:=fun _=>false,pn:=[],xe:=fun _ _=>False }
structure BlockOk (X:Cx) (scope:Scope) (N':LS) (ts:List Nat) (n:Nat):Prop where
 kind:scope.kind=.function
 cell:∀x ∈ scope.names,x.2≠.cell
 loc:∀x ∈ scope.names,x.2=.local->scope.names.lookup x.1=some .local
 fr:∀x ∈ scope.names,x.2=.free->scope.names.lookup x.1=some .free/\(X.env.kindOf x.1=some .cell\/X.env.kindOf x.1=some .free)
 names:X.N=N'.take X.N.length
 more:N'.length=X.N.length+n
 ts:∀x ∈ scope.names,x.2=.local->∀i:Nat,X.N[i]? = some x.1->i ∈ ts
theorem gD:∀{l:List (Str×q)}{x:Str}{v:q},l.lookup x=some v->(x,v) ∈ l
 | [],_,_,h=>by simp at h
 | (y,w)::r,x,v,h=>by
  rw [pN] at h;cases e:x == y with
  | true=>rw [e] at h;cases h;rw [show x=y from by simpa using e];exact List.mem_cons_self
  | false=>rw [e] at h;exact aZ _ (gD h)
theorem jL:∀{l:List (Str×q)}{x:Str}{v:q},(x,v) ∈ l->∃w,l.lookup x=some w
 | [],_,_,h=>by simp at h
 | (y,w)::r,x,v,h=>by
  rw [pN];cases e:x == y with
  | true=>exact⟨w,rfl⟩
  | false=>
   rcases av.mp h with h | h
   .injection h with a _;subst a;simp at e
   .exact jL h
variable {x:Str}
theorem eP (h:(relabel G r).names.lookup x=some k):∃a,(x,a) ∈ G.names/\(k=a\/(k=.cell/\a=.free)):=by
 have m:=gD h;unfold relabel at m;obtain⟨⟨n,a⟩,t,e⟩:=cu.mp m;by_cases c:(a == NameKind.free && r.scope.kind == .function && r.kindOf n == some .cell)=true
 .have s:(n,NameKind.cell)=(x,k):=by simpa [c] using e
  injection s with f b;subst f;rw [Bool.and_eq_true,Bool.and_eq_true] at c;exact⟨a,t,.inr ⟨b.symm,by simpa using c.1.1⟩⟩
 .have s:(n,a)=(x,k):=by simpa [c] using e
  injection s with f b;subst f;exact⟨a,t,.inl b.symm⟩
section
variable {X:Cx}{G:Scope}{u:LS}{j:List Nat}{n:Nat}
theorem BlockOk.cl (B:BlockOk X G u j n) (I:Inv X J M H s) (h:(lH G X.env).lookup x=some c):X.env.cells.lookup x=some c/\(x,NameKind.free) ∈ G.names:=by
 have t:=gD h;unfold lH at t;obtain⟨⟨y,k⟩,m,e⟩:=cu.mp (List.mem_reverse.mp t);obtain⟨m,d⟩:=iZ.mp m;have r:k=.free:=by simpa using d
 subst r;injection e with q f;subst q;obtain⟨_,v⟩:=B.fr _ m rfl;obtain⟨p,a⟩:=I.ok.has y v;dsimp only at f;rw [a] at f;have b:p=c:=f;subst b;exact⟨a,m⟩
theorem BlockOk.has (B:BlockOk X G u j n) (h:(x,NameKind.free) ∈ G.names):∃c,(lH G X.env).lookup x=some c:=by unfold lH;exact jL (v:=(X.env.cells.lookup x).getD 0) (List.mem_reverse.mpr (cu.mpr ⟨(x,.free),iZ.mpr ⟨h,by simp⟩,rfl⟩))
theorem zo (B:BlockOk X G u j n) (I:Inv X r M H s) (C:s.heap.objs.size≤k) (f:∀b ∈ t,rT X r H b) (d:∀b ∈ t,b < s.heap.objs.size) :
  (inn X G u s H k t).Ok where
 mod:=I.ok.mod
 kind:=B.kind
 glob:=I.ok.glob
 blt:=I.ok.blt
 above:=C
 inj:=fun x y c q v=>I.ok.inj x y c (B.cl I q).1 (B.cl I v).1
 has:=fun x h=>by
  have p:(relabel G X.env).names.lookup x=some .cell\/(relabel G X.env).names.lookup x=some .free:=h;rcases p with h | h
  .obtain⟨w,m,e | ⟨_,e⟩⟩:=eP h
   .subst e;exact absurd rfl (B.cell _ m)
   .subst e;exact B.has m
  .obtain⟨w,m,e | ⟨e,_⟩⟩:=eP h
   .subst e;exact B.has m
   .cases e
 cab:=fun x c h=>nomatch h
 hd:=I.ok.hd
 frames:=I.ok.frames
 stk:=.inl rfl
 exf:=fun b a=>⟨bX (cg (d b a) C),fun x c h=>(f b a).2.2.2.2.1 x c (B.cl I h).1⟩
 bs:=I.bs
 bsz:=aQ I.ok.bsz I.sz
 noex:=fun b o e a=>by
  rcases (f b a).2.2.2.1 with z | z
  .exact I.ok.noex b o e z
  .exact absurd (cg (Heap.lt_size (I.ok.bs b o e).1) z) (iW _)
 exfs:=fun b a z=>by
  rcases av.mp (I.stkSub b z) with z | z
  .exact (f b a).2.1 z
  .exact (f b a).2.2.1 z
 funs:=I.stack
 frf:=I.stkFree
theorem _root_.L2.Un.sameBut (u:Un fs r H H' h t) (s:Heap.SameBut k t J) (C:∀b o,h.get? b=some o->b≠k):Un fs r H H' h J where
 keep:=fun b o e n a x=>s.extBut b o (C b o e) (u.keep b o e n a x)
 slot:=fun b o e n a x=>by obtain⟨l,q⟩:=u.slot b o e n a x;exact⟨l,s.extBut b _ (C b o e) q⟩
 free:=u.free
 there:=fun b o e x=>by obtain⟨f,q⟩:=u.there b o e x;exact⟨f,s.extBut b _ (C b o e) q⟩
 tups:=u.tups
 frzs:=u.frzs
 tbls:=u.tbls
theorem _root_.L2.jH.sameBut {P:Program}{w:World}{H:Hp}{h x:Heap}{C:Addr} (ok:jH P w H h) (n:Heap.SameBut C h x) (a:H C=none):jH P w H x:=fun b u e=>
 (ok b u e).stay (fun c v s q=>n.extBut c v (by
  rintro rfl;rcases s with z | z
  .subst z;rw [a] at e;cases e
  .rw [a] at z;cases z) q) (fun _ q=>q) fun _ _ q=>q
inductive PIfs (X:Cx):Ab->EB->Prop where
 | none:PIfs X [] dZ
 | one {c:Expr}{q:EB}:PT X c (tQ X.K q)->PIfs X [c] q
theorem Kp.bump (x:¬F p) (t:∀xs,H p≠some (.tup xs)):Kp F m H F m (cf H p o):=
 ⟨⟨[],by simp⟩,fun _ h=>h,fun b u f h=>by rw [az (by rintro rfl;exact x f)];exact h,fun b xs h=>by rw [az (by rintro rfl;exact t xs h)];exact h⟩
theorem Stp.bump (s:Stp F m H F' m' H') (x:H p=none):Stp F m H F' m' (cf H' p o) where
 pre:=s.pre
 oth:=fun b u h a=>by rw [az (by rintro rfl;rw [x] at h;cases h)];exact s.oth b u h a
 frz:=s.frz
 frk:=fun b u f h=>by rw [az (by rintro rfl;rw [x] at h;cases h)];exact s.frk b u f h
 tup:=fun b xs h=>by rw [az (by rintro rfl;rw [x] at h;cases h)];exact s.tup b xs h
 trk:=fun b h=>by
  by_cases e:b=p
  .subst e;rw [aK];exact fun z=>nomatch z
  .rw [az e];exact s.trk b h
 nf:=s.nf
 nm:=s.nm
theorem Rel.bump (r:Rel K F H m S) (x:¬F p) (s:p ∉ m) (t:∀xs,H p≠some (.tup xs)):Rel K F (cf H p o) m S:=
 r.stayK (Kp.bump x t) (fun a u e h=>by rw [az (by rintro rfl;exact s e)];exact h) (fun _ f=>.inl f) fun a f=>by rw [az (by rintro rfl;exact x f)];exact r.ft a f
theorem Kd:Kp F m H (fun b=>F b\/b=p) m H:=⟨⟨[],by simp⟩,fun _ h=>.inl h,fun _ _ _ h=>h,fun _ _ h=>h⟩
theorem Stp.addF (s:Stp F m H F' m' H') (x:H p=none):Stp F m H (fun b=>F' b\/b=p) m' H':=
 ⟨s.pre,s.oth,fun b h=>.inl (s.frz b h),s.frk,s.tup,s.trk,fun b h=>by
  rcases h with h | h
  .exact s.nf b h
  .subst h;exact .inr (.inl x),s.nm⟩
theorem Rel.addF (r:Rel K F H m S) (s:p ∉ m) (n:H p≠none):Rel K (fun b=>F b\/b=p) H m S where
 len:=r.len
 nd:=r.nd
 obj:=fun i a o e x=>(r.obj i a o e x).kp Kd fun u h=>h
 sep:=fun i a o e x w f=>by
  rcases f with f | f
  .exact r.sep i a o e x w f
  .subst f;exact s (bY e)
 trk:=r.trk
 ft:=fun a f=>by
  rcases f with f | f
  .exact r.ft a f
  .subst f;exact n
theorem _root_.L2.Inv.letGo (I:Inv X k M H s) (f:Heap.SameBut h s.heap t) (C:H h=none) (v:X.s₀.heap.objs.size≤h) (d:h≠X.env.locals)
  (w:∀x c,X.env.cells.lookup x=some c->c≠h) (u:∀p ∈ X.pn++k,p.1≠h):Inv X k M H { s with heap:=t }:=by
 have r:∀b:Addr,b ∉ [h]->b≠h:=fun b m z=>m (by simp [z]);refine I.call' (z:={ s with heap:=t }) (N:=[h]) rfl ⟨fun b o e _ _ a=>f.extBut b o (r b a) e,fun b o e _ _ a=>⟨o.slots,f.extBut b o (r b a) e⟩,fun _ _ _ n _=>n,fun b o e a=>⟨o,f.extBut b o (r b a) e⟩,fun _ _ q=>q,fun _ _ _ q=>q,fun b g q=>⟨#[],by rw [q];simp⟩⟩ (I.hok.sameBut f C) I.bare fun b m=>?_;have e:b=h:=by simpa using m
 subst e;exact⟨.inr v,d,w,u⟩
theorem xD (I:Nat->Shared->Prop)
  (u:∀n s,I n s->wpAny (model t w) A (pyNext it) (fun r f=>match r with
   | none=>R (.ok .next) f
   | some v=>wpAny (model t w) A (letOwnedTupleGo tg it v) (fun _ d=>wpAny (model t w) A (assign tg k v) (fun _ g=>
     wpAny (model t w) A (forIn ifs true fun c r=>if r=true then do let ok <- isTrue c k (eval c k);pure (ForInStep.yield ok) else pure (ForInStep.yield r)) (fun ok b=>
      if ok=true then wpAny (model t w) A (eval elt k) (fun x i=>
       wpAny (model t w) A (call (.builtin "list.append") [J,x]) (fun _ j=>∃m,m < n/\I m j) (notedBy (model t w) A k fun e a=>R (.error e) a) i) (notedBy (model t w) A k fun e a=>R (.error e) a) b
      else ∃m,m < n/\I m b) (notedBy (model t w) A k fun e a=>R (.error e) a) g) (notedBy (model t w) A k fun e a=>R (.error e) a) d) (notedBy (model t w) A k fun e a=>R (.error e) a) f) (notedBy (model t w) A k fun e a=>R (.error e) a) s)
  (n:Nat) (h:I n s):codeAny (model t w) A (.compLoop (.ListComp elt [⟨tg,iter,ifs,0⟩] G N) 0 it J k) R s:=by
 refine codeAny_loop rfl I (fun n s S=>?_) n h;show wpAny _ A ((compTurn (.ListComp elt [⟨tg,iter,ifs,0⟩] G N) 0 it J k).onRaise (fun x=>do noteFrame x k;theTreesLotGoes x)) _ _ s;refine wpAny_noted ?_;rw [compTurn_list];refine wpAny_bind (wpAny_standAt (wpAny_bind (wpAny_mono (u n s S) (fun r f p=>?_) fun _ _ z=>z)));cases r with
 | none=>exact wpAny_pure p
 | some v=>
  refine wpAny_bind (wpAny_mono p (fun _ d l=>wpAny_bind (wpAny_mono l (fun _ g y=>wpAny_bind (wpAny_mono y (fun ok b q=>?_) fun _ _ z=>z)) fun _ _ z=>z)) fun _ _ z=>z);cases ok with
  | false=>exact wpAny_pure ⟨rfl,q⟩
  | true=>exact wpAny_bind (wpAny_bind (wpAny_mono q (fun x i o=>wpAny_bind (wpAny_mono o (fun _ j H=>wpAny_pure (wpAny_pure ⟨rfl,H⟩)) fun _ _ z=>z)) fun _ _ z=>z))
theorem BC {w:Heap}{tk:Nat} (B:BlockOk X G u j n) (I:Inv X J M Y k) (C:k.heap.objs.size≤h) (V:∀b ∈ fp,rT X J Y b) (K:∀b ∈ fp,b < k.heap.objs.size) (l:∀b o,k.heap.get? b=some o->w.get? b=some o)
  (W:Y k.heap.objs.size=none) (D:k.heap.objs.size≠h) (F:Y h=none) (t:w.Ns h mC) (O:w.get? k.heap.objs.size=some { cls:=.type "list",dict:=none,data:=.seq ([]:LV).toArray }) :
  Inv (inn X G u k Y h fp) [] (jC j n M) (cf Y k.heap.objs.size (.lst [])) { k with heap:=w,toks:=tk }:=by
 refine⟨zo B I C V K,rfl,I.bare,Un.laid l (Nat.le_refl _) W,?_,fun x c e=>?_,?_,fun x c e=>?_,fun p hp=>absurd (show p ∈ ([]:PN) from hp) (by simp),?_,?_⟩
 .obtain⟨m0,Z,P⟩:=I.loc;refine⟨_,t,fun i x v R T hv=>?_⟩;obtain⟨g,H,S⟩:=vw T;have r:M.length=X.N.length:=I.len;have L:X.N[i]? = some x:=by
   rw [B.names,ii (by rw [<- r];exact S)];exact R
  have d:(relabel G X.env).names.lookup x=some .local\/(relabel G X.env).names.lookup x=some .cell\/(relabel G X.env).names.lookup x=some .free:=hv;have Q:¬(relabel G X.env).names.lookup x=some .local:=fun z=>by
   obtain⟨N,m,e | ⟨e,_⟩⟩:=eP z
   .subst e;exact absurd (B.ts _ m rfl i L) H
   .cases e
  have E:(x,NameKind.free) ∈ G.names:=by
   rcases d with z | z | z
   .exact absurd z Q
   .obtain⟨N,m,e | ⟨_,e⟩⟩:=eP z
    .subst e;exact absurd rfl (B.cell _ m)
    .subst e;exact m
   .obtain⟨N,m,e | ⟨e,_⟩⟩:=eP z
    .subst e;exact m
    .cases e
  obtain⟨_,f⟩:=B.fr _ E rfl;have A:Ek X.env.scope x:=by
   rcases f with z | z
   .exact .inr (.inl z)
   .exact .inr (.inr z)
  obtain⟨a,ru,lk⟩:=P i x v L g A;refine⟨a,ru,.inr ⟨?_,?_⟩⟩
  .rcases d with z | z | z
   .exact absurd z Q
   .exact .inl z
   .exact .inr z
  .rcases lk with ⟨z,_⟩ | ⟨_,c,U,ic⟩
   .rcases f with y | y
    .rw [z] at y;cases y
    .rw [z] at y;cases y
   .obtain⟨c',s⟩:=B.has E;have:=(B.cl I s).1
    rw [U] at this;cases this;obtain⟨o,q,hd⟩:=ic;exact⟨c,s,o,l c o q,hd⟩
 .obtain⟨v,o,q,hd⟩:=I.cell x c (B.cl I e).1;exact⟨v,o,l c o q,hd⟩
 .show cf Y k.heap.objs.size (.lst []) h=none;rw [az (Ne.symm D)];exact F
 .obtain⟨v,o,q,hd⟩:=I.cell x c (B.cl I e).1;rw [az (bX (Heap.lt_size q))];exact I.freeC x c (B.cl I e).1
 .exact I.hok.laid l (Nat.le_refl _) ⟨Nat.zero_le _,[],0,.nil,O⟩
 .show (jC j n M).length=u.length;rw [qg,I.len,B.more]
inductive cIv (K:FG) (Y:Cx) (F1:Aa) (m1:List Addr) (H2:Hp) (A:Addr) (tn:Nat->Heap->Prop) (fp:List Addr) (R:Nat->Nat->Lc->aF->List P->Prop) (ys:List P) (nn:Nat) (sx:Shared):Prop
 | mk (i:Nat) (σ':L2.St) (F':Aa) (m':List Addr) (H':Hp) (L':Lc) (S':aF) (acc cj:List P) (xs:List V) (h0_:Inv Y [] σ' H' sx) (h1_:tn i sx.heap) (h2_:∀b ∈ fp,H' b=none) (h3_:Stp F1 m1 H2 F' m' H') (h4_:Rel K F' H' m' S') (h5_:RL K F' H' m' σ' L') (h6_:H' A=some (.lst xs)) (h7_:b9 K F' H' acc xs) (h8_:acc.length≤i) (h9_:¬F' A) (ha_:A ∉ m') (hb_:R nn i L' S' cj) (hc_:acc++cj=ys):cIv K Y F1 m1 H2 A tn fp R ys nn sx
theorem pj 
  (B:BlockOk X G u j n) (hcalm:X.calm=true)
  (hi:PI X tg iter (tI X.K fi)) (hg:∀s H h D,PG (inn X G u s H h D) tg (gT X.K g)) (hc:∀s H h D,PIfs (inn X G u s H h D) ifs fc) (he:∀s H h D,PE (inn X G u s H h D) elt (tV X.K fe))
  (hclos:closureFor G X.env=pure (lH G X.env)) (hs:∀x,foldedSetIterable iter X.env x=pure x)
  (a:Inv X pins M H s) (r:Rel X.K F H m S) (l:RL X.K F H m M L) (q:aU fi j n g fc fe L S=some (d,S2))
  (fin:∀p F' m' H' sx h,Inv X pins M H' sx->Stp F m H F' m' H'->Rel X.K F' H' m' S2->RP X.K F' H' d (.ref p)->H' h=none->X.s₀.heap.objs.size≤h->h≠X.env.locals->(∀x c,X.env.cells.lookup x=some c->c≠h)->(∀p ∈ X.pn++pins,p.1≠h) ->
   (∃mC,sx.heap.Ns h mC)->compPost (model X.prog X.w) X.A X.xe use k (.ref p) h (.ok .next) sx) :
  wpAny (model X.prog X.w) X.A (comprehension (.ListComp elt [⟨tg,iter,ifs,0⟩] G N) G X.env p2 (newList []) false (eval iter X.env) use) k X.xe s:=by
 obtain⟨U,S1,e1,q⟩:=af q;split at q;case isFalse=>cases q
 rename_i hfew;obtain⟨ys,S2',e2,q⟩:=af q;cases q;refine wpAny_comprehension_free (use:=use) rfl hs hclos B.kind B.loc (cC (hi pins s M H _ a ⟨F,m,L,S,U,S1,r,l,e1,fun J C m1 I s1 r1 it=>(show (fun J I=>∃C m1,Stp F m H C m1 I/\Rel X.K C I m1 S1/\Ck X.K J U C m1 I) J I from ⟨C,m1,s1,r1,it⟩)⟩) fun xv sA hA=>cC hA fun itv P h2=>?_);obtain⟨it,D,tn,J,Y,rfl,I2,T,st2,f2,C,m1,s1,r1,itp⟩:=h2;have hfp:∀b ∈ D,b < P.heap.objs.size:=fun b E=>by obtain⟨o,e,_⟩:=T.obj _ _ st2 b E;exact Heap.lt_size e
 refine wpAny_newObj_type ?_ (by show 0≤sizeLine;exact Nat.zero_le _);refine wpAny_newFunctionEnv B.cell (by intro y hy;simp at hy) (fun h1 hns1 hsb1=>?_) B.kind;dsimp only at hns1 hsb1 ⊢;have hD:Y P.heap.objs.size=none:=I2.hok.fresh (Nat.le_refl _);generalize hH2:P.heap.push { cls:=.type "list",dict:=none,data:=.seq ([]:LV).toArray }=K at hns1 hsb1 ⊢;have hC:K.objs.size=P.heap.objs.size+1:=by rw [<- hH2,Heap.size_push]
 have A:P.heap.objs.size≤K.objs.size:=by rw [hC];exact mB _
 have old:∀b o,P.heap.get? b=some o->h1.get? b=some o:=fun b o e=>hsb1.extBut b o (bX (cg (Heap.lt_size e) A)) (Heap.get?_push_of_some _ (hH2 ▸ Heap.get?_push_of_some _ e));have hDC:P.heap.objs.size≠K.objs.size:=by rw [hC];exact bX (pQ _)
 have accO:h1.get? P.heap.objs.size=some { cls:=.type "list",dict:=none,data:=.seq ([]:LV).toArray }:=hsb1.extBut _ _ hDC (Heap.get?_push_of_some _ (hH2 ▸ Heap.get?_push_size _ rfl));have hCn:Y K.objs.size=none:=I2.hok.fresh A;have hCcell:∀x c,X.env.cells.lookup x=some c->c≠K.objs.size:=fun x c e z=>by obtain⟨v,o,ho,_⟩:=I2.cell x c e;exact absurd (Heap.lt_size ho) (Nat.not_lt.mpr (by rw [z];exact A))
 have hCloc:K.objs.size≠X.env.locals:=cD (cg I2.lt A);have hCpin:∀p ∈ X.pn++pins,p.1≠K.objs.size:=fun p hp z=>absurd (Heap.lt_size (I2.pin p hp).1) (Nat.not_lt.mpr (by rw [z];exact A));have I3:=BC (tk:=P.toks+([]:List (Str×Value)).length) B I2 A f2 hfp old hD hDC hCn hns1 accO;have okX:=zo (k:=K.objs.size) B I2 A f2 hfp;have fpH:∀{H':Hp},(∀b ∈ D,H' b=none)->∀b ∈ D,rT (inn X G u P Y K.objs.size D) [] H' b:=fun hn b E=>
  ⟨hn b E,bX (cg (hfp b E) A),okX.exfs b E,.inl E,(okX.exf b E).2,fun p hp=>absurd (show p ∈ ([]:PN) from hp) (by simp)⟩
 have tn1:tn 0 h1:=T.keep _ _ _ st2 fun b E o e=>old b o e;have loop:∀s3:Shared,s3={ P with heap:=h1,toks:=P.toks+([]:List (Str×Value)).length } ->
   codeAny (model X.prog X.w) X.A (.compLoop (.ListComp elt [⟨tg,iter,ifs,0⟩] G N) 0 (.ref it) (.ref P.heap.objs.size) (compEnvC G (lH G X.env) K.objs.size X.env))
    (compPost (model X.prog X.w) X.A X.xe use k (.ref P.heap.objs.size) K.objs.size) s3:=by
  rintro s3 rfl;refine xD (cIv X.K (inn X G u P Y K.objs.size D) C m1 Y P.heap.objs.size tn D (fun nn i L' O cj=>nn=U.length-i/\i≤U.length/\bo g fc fe (U.drop i) L' O=some (cj,S2)) ys) ?_ U.length ?_
  .rintro nn sx ⟨i,σ',F',m',H',L',O,acc,cj,xs,I',tn',fr',st',r',l',Z,ra,hal,nF,nm,⟨rfl,hi',R⟩,rfl⟩;obtain⟨hgo,hstop⟩:=itp F' m' H' st';by_cases hlt:i < U.length
   .have hv:U[i]? = some U[i]:=by simp [hlt]
    rw [List.drop_eq_getElem_cons hlt] at R;obtain⟨hgo1,hy⟩:=hgo i _ hv;refine wpAny_mono (T.item (inn X G u P Y K.objs.size D) rfl rfl rfl hcalm i [] sx σ' H' (fun _ _=>False) I' (fpH fr') tn' hgo1) (fun rr sy hr=>?_) (fun _ _ f=>f.elim);obtain⟨t,rfl,hr⟩:=hr;refine wpAny_mono hr (fun _ sz hz=>?_) (fun _ _ f=>f.elim);obtain⟨x,H3,I4,rx,yl,tn4,fr4⟩:=hz;obtain⟨F3,gr,p3⟩:=hy x H3 yl;have BY:Stp C m1 Y F3 m' H3:=st'.trans gr.stp;have r4:=r'.grow gr;have l4:=l'.mono (gr.stp (m:=m'));have acc4:=gr.keep _ _ Z;have nF4:¬F3 P.heap.objs.size:=fun z=>by
     rcases gr.nf _ z with z | ⟨z,_⟩
     .exact nF z
     .rw [Z] at z;cases z
    have I4':=I4.pinned (fpH fr4) (T.obj _ _ tn4);have back:∀{σ7:L2.St}{H7:Hp}{s7:Shared},Inv (inn X G u P Y K.objs.size D) ([]++ll D sz.heap) σ7 H7 s7->tn (i+1) s7.heap/\∀b ∈ D,H7 b=none:=fun {σ7 H7 s7} I7=>
     ⟨T.keep _ _ _ tn4 fun b E o e=>(I7.pin (b,o) (fP _ (fP _ (iw E e)))).1,fun b E=>by obtain⟨o,e,dd⟩:=T.obj _ _ tn4 b E;exact (I7.pin (b,o) (fP _ (fP _ (iw E e)))).2.1⟩
    unfold bo at R;cases eg:g U[i] L' with
    | none=>rw [eg] at R;cases R
    | some L1=>
     rw [eg] at R;dsimp only at R;obtain⟨kk,S5,e5,R⟩:=af R;refine wpAny_mono (hg P Y K.objs.size D _ sz σ' H3 x t (fun Q H5=>H5=H3/\RL X.K F3 H3 m' Q L1) I4' rx ⟨F3,m',L',U[i],L1,l4,p3,eg,fun Q l5=>⟨rfl,l5⟩⟩) (fun _ s5 h5=>?_) (fun _ _ f=>f.elim);obtain⟨Q,H5,I5,rfl,l5⟩:=h5;have test:wpAny (model X.prog X.w) X.A (forIn ifs true fun c r=>if r=true then do let ok <- isTrue c (compEnvC G (lH G X.env) K.objs.size X.env) (eval c (compEnvC G (lH G X.env) K.objs.size X.env));pure (ForInStep.yield ok) else pure (ForInStep.yield r))
       (fun ok s6=>ok=kk/\∃V m6 H6,Inv (inn X G u P Y K.objs.size D) ([]++ll D sz.heap) Q H6 s6/\Stp F3 m' H5 V m6 H6/\Rel X.K V H6 m6 S5) (fun _ _=>False) s5:=by
      have hcc:=hc P Y K.objs.size D;cases hcc with
      | none=>cases e5;exact wpAny_tests_nil ⟨rfl,F3,m',H5,I5,.refl,r4⟩
      | one hq=>refine wpAny_tests_one (wpAny_mono (hq _ s5 Q H5 (fun b H6=>b=kk/\∃V m6,Stp F3 m' H5 V m6 H6/\Rel X.K V H6 m6 S5) I5 ⟨F3,m',L1,O,kk,S5,r4,l5,e5,fun V m6 H6 s6 r6=>⟨rfl,V,m6,s6,r6⟩⟩) (fun b s6 h6=>?_) fun _ _ f=>f);obtain⟨H6,I6,rfl,V,m6,x9,r6⟩:=h6;exact⟨rfl,V,m6,H6,I6,x9,r6⟩
     refine wpAny_mono test (fun ok s6 h6=>?_) (fun _ _ f=>f.elim);obtain⟨rfl,V,m6,H6,I6,x9,r6⟩:=h6;have W:=x9.oth _ _ acc4 nm;have nm6:P.heap.objs.size ∉ m6:=fun z=>by
      rcases x9.nm _ z with z | z
      .exact nm z
      .rw [acc4] at z;cases z
     have nF6:¬V P.heap.objs.size:=fun z=>by
      rcases x9.nf _ z with z | z | z
      .exact nF4 z
      .rw [acc4] at z;cases z
      .exact nm z
     have ra6:=b9.mono x9 (ra.grow gr);have l6:=l5.mono x9;cases ok with
     | false=>rw [if_neg bO] at R ⊢;obtain⟨t7,f7⟩:=back I6;exact⟨U.length-(i+1),by lia,i+1,Q,V,m6,H6,L1,S5,acc,cj,xs,I6.pins_of fun p hp=>absurd hp (by simp),t7,f7,BY.trans x9,r6,l6,W,ra6,Nat.le_succ_of_le hal,nF6,nm6,⟨rfl,hlt,R⟩,rfl⟩
     | true=>
      rw [if_pos rfl] at R ⊢;obtain⟨y,S8,e8,R⟩:=af R;obtain⟨zs,S9,e9,R⟩:=af R;cases R;refine wpAny_mono (he P Y K.objs.size D _ s6 Q H6 (fun v8 H8=>∃F8 m8,Stp V m6 H6 F8 m8 H8/\Rel X.K F8 H8 m8 S8/\RP X.K F8 H8 y v8) I6 ⟨V,m6,L1,S5,y,S8,r6,l6,e8,fun v8 F8 m8 H8 s8 r8 p8=>⟨F8,m8,s8,r8,p8⟩⟩) (fun u8 s8 h8=>?_) (fun _ _ f=>f.elim);obtain⟨v8,H8,I8,rv8,F8,m8,st8,r8,p8⟩:=h8;have acc8:=st8.oth _ _ W nm6;have nm8:P.heap.objs.size ∉ m8:=fun z=>by
       rcases st8.nm _ z with z | z
       .exact nm6 z
       .rw [W] at z;cases z
      have nF8:¬F8 P.heap.objs.size:=fun z=>by
       rcases st8.nf _ z with z | z | z
       .exact nF6 z
       .rw [W] at z;cases z
       .exact nm6 z
      have ra8:=b9.mono st8 ra6;have nt8:∀zs,H8 P.heap.objs.size≠some (.tup zs):=fun zs z=>by rw [acc8] at z;cases z
      have hl8:xs.length < sizeLine:=by have h9:U.length≤1000000:=of_decide_eq_true hfew;rw [<- ra8.length];exact cg (kY hal hlt) (aQ h9 (by decide))
      refine wpAny_mono (o8 (X:=inn X G u P Y K.objs.size D) _ s8 Q H8 (.ref P.heap.objs.size) [v8] (.ref P.heap.objs.size) [u8] (fun _ H9=>H9=cf H8 P.heap.objs.size (.lst (xs++[v8]))) I8 rfl (.cons rv8 .nil) ⟨_,xs,v8,rfl,rfl,acc8,hl8,rfl⟩) (fun _ s9 h9=>?_) (fun _ _ f=>f.elim);obtain⟨_,H9,I9,_,rfl⟩:=h9;obtain⟨t9,f9⟩:=back I9;have kb:Kp F8 m8 H8 F8 m8 (cf H8 P.heap.objs.size (.lst (xs++[v8]))):=Kp.bump nF8 nt8;have st9:Stp C m1 Y F8 m8 (cf H8 P.heap.objs.size (.lst (xs++[v8]))):=(BY.trans (x9.trans st8)).bump hD;have l9:RL X.K F8 (cf H8 P.heap.objs.size (.lst (xs++[v8]))) m8 Q L1:=⟨l6.len,fun w dd e=>by obtain⟨v,e1,rr⟩:=(l6.mono st8).at' w dd e;exact⟨v,e1,RD.kp kb rr⟩⟩
      exact⟨U.length-(i+1),by lia,i+1,Q,F8,m8,_,L1,S8,acc++[y],zs,xs++[v8],I9.pins_of fun p hp=>absurd hp (by simp),t9,f9,st9,r8.bump nF8 nm8 nt8,l9,aK,
       b9.kp kb (ra8.append ⟨v8,[],rfl,p8,rfl⟩),by rw [cV];exact Nat.succ_le_succ hal,nF8,nm8,⟨rfl,hlt,e9⟩,by simp⟩
   .have e:i=U.length:=by lia
    subst e;rw [p7] at R;cases R;refine wpAny_mono (T.done (inn X G u P Y K.objs.size D) rfl rfl rfl hcalm U.length [] sx σ' H' (fun _ _=>False) I' (fpH fr') tn' hstop) (fun rr sy hr=>?_) (fun _ _ f=>f.elim);obtain⟨rfl,I5⟩:=hr;rw [List.append_nil] at *
    have Iout:Inv X pins M H' sy:=I2.call' (N:=D) I5.os I5.base I5.hok I5.bare fun b E=>⟨(f2 b E).2.2.2.1,(f2 b E).2.1,(f2 b E).2.2.2.2.1,(f2 b E).2.2.2.2.2⟩;have hD0:H P.heap.objs.size=none:=by
     cases q:H P.heap.objs.size with
     | none=>rfl
     | some o=>exact absurd hD (s1.trk _ (by rw [q];exact fun z=>nomatch z))
    have hCH:H' K.objs.size=none:=I5.free;obtain⟨mC,hmC,_⟩:=I5.loc;exact fin P.heap.objs.size (fun b=>F' b\/b=P.heap.objs.size) m' H' sy K.objs.size Iout ((s1.trans st').addF hD0) (r'.addF nm (by rw [Z];exact fun z=>nomatch z))
     ⟨_,xs,rfl,⟨.inr rfl,Z⟩,b9.kp (m:=m') Kd ra⟩ hCH (aQ I2.sz A) hCloc hCcell hCpin ⟨mC,hmC⟩
  .exact⟨0,_,C,m1,_,jC j n L,S1,[],ys,[],I3,tn1,fun b E=>by rw [az (bX (hfp b E))];exact (f2 b E).1,(b0 hD).stp,r1.grow (b0 hD),((l.mono s1).mono (b0 hD).stp).up j n,aK,rfl,Nat.zero_le _,r1.fresh_F hD,r1.fresh_m hD,⟨rfl,Nat.zero_le _,by rw [pH];exact e2⟩,rfl⟩
 exact codeAny_compStart_list (loop _ rfl) (T.self X.A 0 _ _ _ tn1 (loop _ rfl))
theorem E8 (B:BlockOk X G u j n) (c:X.calm=true)
  (D:PI X tg iter (tI X.K fi)) (A:∀s H C f,PG (inn X G u s H C f) tg (gT X.K g)) (K:∀s H C f,PIfs (inn X G u s H C f) J fc) (P:∀s H C f,PE (inn X G u s H C f) t (tV X.K fe))
  (o:closureFor G X.env=pure (lH G X.env)) (E:∀x,foldedSetIterable iter X.env x=pure x:=by intro _;rfl) :
  PE X (.ListComp t [⟨tg,iter,J,0⟩] G N) (tV X.K (aU fi j n g fc fe)):=by
 intro i s M H Q I ⟨F,m,L,S,d,O,r,h,q,k⟩;rw [eval_ListComp];refine pj B c D A K P o E I r h q fun p F' m' H' Z C e l U V z b v w y R=>?_
 obtain⟨T,a⟩:=R;exact⟨T,a,fun Y W=>⟨.ref p,H',e.letGo W z b v w y,rfl,k _ F' m' H' l U V⟩⟩
theorem EX (i:Nat) (hN:X.N.Nodup) (B:BlockOk X G u j n) (c:X.calm=true)
  (hi:PI X tg iter (tI X.K fi)) (hg:∀s H C f,PG (inn X G u s H C f) tg (gT X.K g)) (hc:∀s H C f,PIfs (inn X G u s H C f) J fc) (he:∀s H C f,PE (inn X G u s H C f) t (tV X.K fe))
  (o:closureFor G X.env=pure (lH G X.env)) (A:swapsWith (.ListComp t [⟨tg,iter,J,0⟩] G N) (some (.Name x px)) spos.line X.env=pure true:=by rfl)
  (hs:∀x,foldedSetIterable iter X.env x=pure x:=by intro _;rfl) (K:X.N[i]? = some x:=by rfl) (hx:Loc X.env.scope x:=by first | exact Or.inl rfl | exact Or.inr rfl)
  (hf:X.fn x=true\/X.env.scope.names.lookup x=some .local:=by first | exact .inl rfl | exact .inr rfl | assumption) :
  PS X (.Assign [.Name x px] (.ListComp t [⟨tg,iter,J,0⟩] G N) spos) (kc X.K (au i (eV (aU fi j n g fc fe)))):=by
 intro y s M H D I ⟨F,m,L,S,fl,L',O,r,h,q,k⟩;obtain⟨d,S1,W,q⟩:=af q;cases q;obtain⟨v,S2,Y,Z⟩:=af W;cases Z;rw [exec_Assign_Name_used _ _ _ _ A];refine wpAny_bind (wpAny_standAt (wpAny_bind ?_));show wpAny _ _ (do let _ <- comprehension (.ListComp t [⟨tg,iter,J,0⟩] G N) G X.env _ (newList []) false (eval iter X.env) (some (assign (.Name x px) X.env))) _ _ s;refine wpAny_bind (wpAny_mono (pj (use:=some (assign (.Name x px) X.env)) (k:=fun _ E=>SP X y D .next E) B c hi hg hc he o hs I r h Y fun p F' m' H' sx C V l r' rp hC h0 T U h3 hz=>?_) (fun _ E hq=>wpAny_pure (wpAny_pure hq)) fun _ _ e=>e);obtain⟨mC,P⟩:=hz;refine wpAny_assign_Name (oX V hN K hx (v:=.ref p) rfl (fun E z w=>?_) hf);refine⟨mC,?_,fun h' sb=>⟨_,H',z.letGo sb hC h0 T U h3,k _ F' m' H' l r' ((h.mono l).set (d:=.p v) rp i)⟩⟩;obtain⟨a,R,b⟩:=w;refine P.sameBut R ?_;rcases b with b | b
 .rw [b];exact T
 .exact Ne.symm (U x a b)
end
end Ev
namespace Ev
open PySem PySem.Spec PyProof.Rows L2
section
variable {X:Cx}{a b e:Expr}{es:Ab}{C U:EV}{fs:fN}{J p:Pos}
noncomputable def u5:P->Option P
 | .int i=>some (.int (-i))
 | _=>none
theorem IM (f:PE X a (tV X.K C)):PE X (.UnaryOp .USub a J) (tV X.K (CC u5 C)):=(FR CF f).imp' fun N H Q z=>by
 obtain⟨F,m,L,S,d,t,r,l,q,k⟩:=z;obtain⟨x,w,n,q⟩:=af q;cases x with
 | int i=>cases q;exact⟨F,m,L,S,_,_,r,l,n,fun v h b e s c p=>⟨i,p,k _ h b e s c rfl⟩⟩
 | _=>cases q
noncomputable def CH:P->String
 | .non=>"NoneType"
 | .bl _=>"bool"
 | .int _=>"int"
 | .str _=>"str"
 | .tup _=>"tuple"
 | .lst _=>"list"
 | .ro _=>"list"
 | .dct _ _=>"dict"
noncomputable def jE (T:String) (v:P):Bool:=CH v == T || (T == "int" && CH v == "bool")
theorem zT (T:∀K:FG,∀v:P,PySem.W.kitOne K (.type (CH v)) (.type L)=some (jE L v)) :
  cJ X (.builtin "isinstance") (fun m H Q=>∃F d x,m=[x,.ty L]/\RP X.K F H d x/\Q (.bl (jE L d)) H):=by
 intro B s N H m E Q I r h;obtain⟨F,d,x,rfl,pd,q⟩:=h;obtain⟨u,C,rfl,k,w⟩:=vals2 r;cases (show C=Value.type L from w);have e:=T X.K d;have f:∀l,EP X B N Q (.bool (jE L d)) { s with toks:=l }:=fun l=>⟨.bl (jE L d),H,I.tok _,rfl,q⟩
 cases d with
 | non=>cases (show x=.non from pd);exact gm I k (.non) e f
 | bl y=>cases (show x=.bl y from pd);exact gm I k (.bl y) e f
 | int y=>cases (show x=.int y from pd);exact gm I k (.int y) e f
 | str y=>cases (show x=.str y from pd);exact gm I k (.str y) e f
 | tup g=>obtain⟨a,m,rfl,t,j⟩:=pd;cases k;obtain⟨i,_,⟨o,b,c,_⟩,_⟩:=I.tuple t.sq;exact ei PySem.W.kitx_tuple I.kIn ⟨o,b,c⟩ e (fun z=>nomatch z) f
 | lst g=>obtain⟨a,m,rfl,t,j⟩:=pd;cases k;obtain⟨i,_,p,_⟩:=I.list t.sq;obtain⟨o,n,b,c,_⟩:=p;exact ei mU I.kIn ⟨o,b,c⟩ e (fun z=>nomatch z) f
 | ro g=>obtain⟨a,m,rfl,t,j⟩:=pd;cases k;obtain⟨i,_,p,_⟩:=I.list t.sq;obtain⟨o,n,b,c,_⟩:=p;exact ei mU I.kIn ⟨o,b,c⟩ e (fun z=>nomatch z) f
 | dct D O=>obtain⟨a,A,rfl,_,S,_⟩:=pd;exact gm I k (.dK S) e f
theorem y7 (K:FG) (v:P):PySem.W.kitOne K (.type (CH v)) (.type "bool")=some (jE "bool" v):=by cases v <;> rfl
noncomputable def iM:List P->Option P
 | [.int i]=>some (.int i)
 | [.bl b]=>some (.int (if b then 1 else 0))
 | _=>none
theorem qq {K:FG}{F:Aa}{H:Hp}{d:P}{s:List V} (r:b9 K F H [d] s):∃x,s=[x]/\RP K F H d x:=by obtain⟨x,h,rfl,p,a⟩:=r;cases (show h=[] from a);exact⟨x,rfl,p⟩
theorem BG:cJ X (.type "int") (rC X.K iM):=by
 intro B s N H n u Q I r h;obtain⟨F,e,d,f,a,q,k⟩:=h;unfold iM at q;split at q
 .cases q;obtain⟨x,rfl,p⟩:=qq a;exact pq B s N H _ u Q I r (.inl ⟨_,by rw [show x=_ from p],k _ F H .refl rfl⟩)
 .cases q;obtain⟨x,rfl,p⟩:=qq a;exact pq B s N H _ u Q I r (.inr ⟨_,by rw [show x=_ from p],k _ F H .refl rfl⟩)
 .cases q
noncomputable def lU:EE:=fun _ S=>some (.ref S.length,S++[.dct [] []])
theorem xS:PE X (.Dict [] [] J) (tE X.K lU):=yD.imp' fun N H Q z=>by obtain⟨F,m,L,S,d,x,r,l,q,k⟩:=z;cases q;intro p h;refine k (.ref p) F (m++[p]) _ (fZ h) (r.own h ⟨[],aK,rfl,rfl⟩) ⟨p,rfl,?_⟩;rw [<- r.len,fQ (Nat.le_refl _)];simp
noncomputable def nY (k:bC) (v:D):List bC->List D->List bC×List D
 | h::s,w::x=>if h=k then (h::s,v::x) else (h::(nY k v s x).1,w::(nY k v s x).2)
 | _,_=>([k],[v])
noncomputable def jD (d:D) (S:aF):Option (Nat×List bC×List D):=match d with
 | .ref i=>match S[i]? with
  | some (.dct k O)=>some (i,k,O)
  | _=>none
 | _=>none
theorem qw (h:jD r S=some (i,v,O)):r=.ref i/\S[i]? = some (.dct v O):=by
 unfold jD at h;split at h
 .split at h
  .rename_i e;cases h;exact⟨rfl,e⟩
  .cases h
 .cases h
noncomputable def on (o:EE) (k v:EV):ES:=fun L S=>aH (v L S) fun y x=>aH (o L x) fun d a=>aH (k L a) fun z h=>match jD d h,bZ z with
 | some (i,s,O),some e=>if (s.Nodup/\few s=true) then some (.nx,L,h.set i (.dct (nY e (.p y) s O).1 (nY e (.p y) s O).2)) else none
 | _,_=>none
theorem o0 {K:FG}{F:Aa}{H:Hp}{m:List Addr}{k:bC}{y:D}{u:V} (t:RD K F H m y u):∀{v:List (bC×V)}{s:List D},(v.map (·.1)).Nodup->dc K F H m s (v.map (·.2)) ->
  (putK v k u).map (·.1)=(nY k y (v.map (·.1)) s).1/\dc K F H m (nY k y (v.map (·.1)) s).2 ((putK v k u).map (·.2))
 | [],s,_,r=>by have:s=[]:=i3 r.length;subst this;exact⟨rfl,u,[],rfl,t,rfl⟩
 | (h,w)::v,[],_,r=>by have:=r.length;simp at this
 | (h,w)::v,d::s,i,r=>by
  obtain⟨x,G,e,E,j⟩:=r;rw [List.map_cons] at e i;injection e with o S;subst o;subst S;obtain⟨p,g⟩:=List.nodup_cons.mp i;simp only [List.map_cons,nY];by_cases n:h=k
  .subst n;rw [if_pos rfl];have f:putK ((h,w)::v) h u=(h,u)::v:=by
    unfold putK;rw [if_pos (by simp)];rw [List.map_cons,if_pos rfl];congr 1;have:∀l:List (bC×V),h ∉ l.map (·.1)->l.map (fun a=>if a.1=h then (a.1,u) else a)=l:=by
     intro l;induction l with
     | nil=>intro _;rfl
     | cons q l C=>
      intro b;rw [List.map_cons] at b;have P:¬q.1=h:=fun z=>b (by rw [<- z];exact List.mem_cons_self)
      rw [List.map_cons,if_neg P,C fun z=>b (aZ _ z)]
    exact this v p
   rw [f];exact⟨rfl,u,_,rfl,t,j⟩
  .rw [if_neg n];obtain⟨A,B⟩:=o0 t g j;have f:putK ((h,w)::v) k u=(h,w)::putK v k u:=by
    unfold putK;rw [e_,bv (show ¬(h,w).1=k from n),mF];by_cases c:(v.any fun a=>decide (a.1=k))=true
    .rw [if_pos c,if_pos c,List.map_cons,if_neg (show ¬(h,w).1=k from n)]
    .rw [if_neg c,if_neg c];rfl
   rw [f,List.map_cons,List.map_cons,A];exact⟨rfl,w,_,rfl,E,B⟩
theorem Iv {o i g:Expr}{T:EE}{k Y:EV}{G:Pos} (hu:X.A.units+1 < cLine) (ho:PE X o (tE X.K T)) (hi:PE X i (tV X.K k)) (hv:PE X g (tV X.K Y)) (hs:swapsWith g (some (.Subscript o i G)) J.line X.env=pure false:=by rfl) :
  PS X (.Assign [.Subscript o i G] g J) (kc X.K (on T k Y)):=(vM hu ho hi hv hs).imp' fun D N H hz=>by
 obtain⟨F,m,L,S,fl,L',S',r,l,q,h⟩:=hz;obtain⟨y,E,e1,q⟩:=af q;obtain⟨d,I,e2,q⟩:=af q;obtain⟨z,M,e3,q⟩:=af q;refine⟨F,m,L,S,y,E,r,l,e1,fun v C V H1 c r1 p1=>?_⟩;refine⟨C,V,L,E,d,I,r1,l.mono c,e2,fun x F2 m2 H2 p r2 p2=>?_⟩;refine⟨F2,m2,L,I,z,M,r2,(l.mono c).mono p,e3,fun w n b f u B p3=>?_⟩;cases P:jD d M with
 | none=>rw [P] at q;cases q
 | some t=>
  obtain⟨j,ks,O⟩:=t;rw [P] at q;cases K:bZ z with
  | none=>rw [K] at q;cases q
  | some e=>
   rw [K] at q;dsimp only at q;split at q
   .rename_i U;cases q;obtain⟨rfl,es⟩:=qw P;obtain⟨a,rfl,A⟩:=RD.mono u p2;obtain⟨s,R,hk,rs⟩:=B.obj j a _ A es;subst hk;have pv:RD X.K n f b (.p y) v:=RD.mono u (RD.mono p (show RD X.K C H1 V (.p y) v from p1));obtain⟨h1,h2⟩:=o0 (k:=e) pv U.1 rs;cases (fH K p3);have W:∀Z,f a≠some (.tup Z):=fun Z z=>by rw [R] at z;cases z
    have st:Stp n b f n b (cf f a (.dK (putK s e v))):=fy B A es trivial W;have hl:s.length < sizeLine:=by have Q:(s.map (·.1)).length≤1000000:=of_decide_eq_true U.2;rw [bu] at Q;exact kY Q (by decide)
    refine⟨a,_,rfl,t_.k R hl,?_⟩;exact h N n b _ (c.trans (p.trans (u.trans st))) (B.set A es trivial W ⟨_,aK,h1,dc.mono st h2⟩) (((l.mono c).mono p).mono (u.trans st))
   .cases q
end
section
variable {X:Cx}{a b c e:Expr}{es:Ab}{C U q:EV}{fs:fN}{J p:Pos}
noncomputable def gG:List P->Option (List Int)
 | []=>some []
 | .int i::r=>(gG r).map (i::·)
 | _::_=>none
noncomputable def u7:P->P->Option P
 | .dct s O,.dct k v=>if s=k/\s.Nodup/\(gG O).isSome=true/\gG O=gG v then some (.bl true) else none
 | x,y=>JV x y
theorem lZ {k x:bC}{v:Value}{r:List (bC×Value)} (h:¬x=k):valueAt ((x,v)::r) k=valueAt r k:=by simp [valueAt,iY,h]
theorem l_ {k:bC}{v:Value}{r:List (bC×Value)}:valueAt ((k,v)::r) k=some v:=by simp [valueAt,iY]
theorem sM {K:FG}{F:Aa}{H:Hp}{A:Around}{s:Shared}:∀{n h:List (bC×V)}{C w:List (bC×Value)}{g a:List P}{B:List Int},(n.map (·.1)).Nodup->n.map (·.1)=h.map (·.1)->KV n C->KV h w ->
  b9 K F H g (n.map (·.2))->b9 K F H a (h.map (·.2))->gG g=some B->gG a=some B->∀{p:List (bC×Value)},(∀k v,valueAt w k=some v->k ∈ h.map (·.1)->valueAt p k=some v)->PySem.W.KeqHits A s p C true
 | [],[],C,w,g,a,B,R,e,Q,o,Y,Z,m,r,p,L=>by cases Q;exact .nil
 | [],_::_,_,_,_,_,_,_,e,_,_,_,_,_,_,_,_=>by simp at e
 | _::_,[],_,_,_,_,_,_,e,_,_,_,_,_,_,_,_=>by simp at e
 | (k,v)::n,(k',v')::h,C,w,g,a,B,R,e,Q,o,Y,Z,m,r,p,L=>by
  cases Q with
  | @cons _ q _ qs h1 t1=>
   cases o with
   | @cons _ q' _ qs' h2 t2=>
    obtain⟨kq,u⟩:=q;obtain⟨kq',u'⟩:=q';obtain⟨e1,rv⟩:=h1;obtain⟨e2,S⟩:=h2;dsimp only at e1 e2 rv S;subst e1;subst e2;rw [List.map_cons,List.map_cons] at e;injection e with ek er;dsimp only at ek;subst ek;rw [List.map_cons] at R;obtain⟨T,U⟩:=List.nodup_cons.mp R;cases g with
    | nil=>have:=b9.length Y;simp at this
    | cons d dr=>
     cases a with
     | nil=>have:=b9.length Z;simp at this
     | cons d' D=>
      obtain⟨x,xr,ex,p1,q1⟩:=Y;obtain⟨x',xr',j,W,X⟩:=Z;rw [List.map_cons] at ex j;injection ex with I J;injection j with l y;subst I J l y;cases d with
      | int i=>
       cases d' with
       | int f=>
        simp only [gG] at m r;cases E:gG dr with
        | none=>rw [E] at m;cases m
        | some js=>
         cases c:gG D with
         | none=>rw [c] at r;cases r
         | some O=>
          rw [E] at m;rw [c] at r;cases m;have N:f::O=i::js:=Option.some.inj r;injection N with z1 z2;subst z1;subst z2;cases (show v=.int f from p1);cases (show v'=.int f from W);obtain⟨t,rfl⟩:=rv;obtain⟨t',rfl⟩:=S;have hy:valueAt p k=some (.int f t'):=L k _ l_ (by simp);have G:SeqAt.EqAt A s (.int f t) (.int f t') true:=by have:=SeqAt.EqAt.int_int (A:=A) (s:=s) f t f t';simpa using this
          have cj:=sM (A:=A) (s:=s) U er t1 t2 q1 X E c (p:=p) fun o v2 hv M=>by
           refine L o v2 ?_ (aZ _ M);have:¬k=o:=fun z=>by subst z;rw [<- er] at M;exact T M
           rw [lZ this];exact hv
          have:=PySem.W.KeqHits.hit (e:=true) (b:=true) hy G cj;exact this
       | _=>simp [gG] at r
      | _=>simp [gG] at m
theorem Gc (hu:X.A.units+1 < cLine):mx X (compareOp .Eq) u7:=by
 intro B s N H x y v u Q I S K h;obtain⟨F,n,f,d,G,l,z,q,k⟩:=h;have o:JV n f=some d->wpAny (model X.prog X.w) X.A (compareOp .Eq v u) (EP X B N Q) X.xe s:=fun q=>JC B s N H x y v u Q I S K ⟨F,n,f,d,G,l,z,q,k⟩
 cases n with
 | dct ks O=>
  cases f with
  | dct W vs'=>
   simp only [u7] at q;split at q
   .rename_i M;cases q;obtain⟨g,nd,V,R⟩:=M;obtain⟨a,Y,rfl,C,c,E,ra⟩:=l;obtain⟨b,j,rfl,U,m,p,rb⟩:=z;cases S;cases K;obtain⟨za,J,ws,r,P⟩:=wf I.hok c;obtain⟨zb,L,w,e,D⟩:=wf I.hok m;obtain⟨is,i⟩:=Option.isSome_iff_exists.mp V;subst E;have t:=sM (A:=X.A.in1) (s:=s) nd (by rw [p];exact g) r e ra rb i (by rw [<- R];exact i) (p:=w) fun _ _ h _=>h
    refine PySem.W.keq_eq J L P D (by lia) (fun _=>t) ?_;have T:ws.length=w.length:=by have l1:=r.length;have l2:=e.length;have Z:=congrArg List.length g;rw [<- p,bu,bu] at Z;lia
    rw [T];simp only [beq_self_eq_true,Bool.and_self];exact⟨.bl true,H,I,rfl,k _ F H .refl rfl⟩
   .cases q
  | _=>exact o q
 | _=>exact o q
noncomputable def signs (x:Str):List P:=x.cps.toList.map fun c=>.str ⟨#[c]⟩
noncomputable def KC (x:Str):It:=⟨fun i _=>i < x.cps.size,fun i H v h=>h=H/\∃c,x.cps[i]? = some c/\v=.str ⟨#[c]⟩,fun i _=>x.cps.size≤i⟩
theorem wF {P:Program}{w:World}{K:FG}{M:Expr} (n:Addr) (x:Str) (t:Tok):Turn P w K M (KC x) [n] n (fun i h=>h.IsStrIter n "str_ascii_iterator" x t i) where
 mem:=by simp
 obj:=fun i h st b a=>by
  have e:b=n:=by simpa using a
  subst e;obtain⟨o,e,c,d⟩:=st;exact⟨o,e,fun v z=>by rw [d] at z;cases z⟩
 keep:=fun i h m st k=>let ⟨o,e,r⟩:=st;⟨o,k n (by simp) o e,r⟩
 item:=by
  intro X F hw S A i B s N H E I p st g;subst F hw S;obtain⟨q,u,J,j,l,y⟩:=p n (by simp);have C:x.cps[i]? = some (x.cps[i]'g):=uj g;refine wpAny_pyNext_ascii_item st C fun m f L=>?_
  have D:L2.Inv X B N H { s with heap:=m,toks:=s.toks+1 }:=I.turned (fun b o a e=>(L.2 b a).trans e) q u j l y;obtain⟨o,e,c,d⟩:=id f;exact⟨_,rfl,v_ (s:={ s with heap:=m,toks:=s.toks+1 }) e c d (by decide) ⟨.str ⟨#[x.cps[i]'g]⟩,H,D,⟨_,rfl⟩,⟨rfl,_,C,rfl⟩,f,fun b a=>(p b a).1⟩⟩
 done:=by intro X F hw S A i B s N H E I p st g;subst F hw S;obtain⟨q,u,J,j,l,y⟩:=p n (by simp);exact wpAny_pyNext_ascii_end (I.ok.hd A) st (by rw [Array.getElem?_eq_none_iff];exact g) fun m G=>⟨rfl,I.turned (t':=s.toks) (fun b o a e=>G b o a e) q u j l y⟩
 self:=fun _ _ _ _ _ st h=>wpAny_pyIter_striter_ascii st h
theorem D0 {K:FG}{F:Aa}{m:List Addr}{H:Hp}{x:Str}:Ck K (KC x) (signs x) F m H:=by
 intro a r f s;have h:(signs x).length=x.cps.size:=by unfold signs;simp
 refine⟨fun i v e=>?_,by show x.cps.size≤(signs x).length;rw [h];exact Nat.le_refl _⟩;have k:i < x.cps.size:=by rw [<- h];exact (List.getElem?_eq_some_iff.mp e).1
 refine⟨k,fun y b z=>?_⟩;obtain⟨rfl,c,n,rfl⟩:=z;refine⟨a,.refl,?_⟩;unfold signs at e;rw [List.getElem?_map,Array.getElem?_toList,n] at e;cases e;exact rfl
noncomputable def iR (a:EV):fN:=fun L S=>aH (a L S) fun v h=>match v with
 | .lst s=>some (s,h)
 | .ro s=>some (s,h)
 | .tup s=>some (s,h)
 | .str x=>if (x.cps.all (· < 128))=true then some (signs x,h) else none
 | _=>none
theorem iS {T iter:Expr} (h:PE X iter (tV X.K C)):PI X T iter (tI X.K (iR C)):=by
 intro B s N H R I ⟨F,m,L,S,O,Y,r,l,q,k⟩;obtain⟨v,D,Z,q⟩:=af q;refine cC (h B s N H (fun x f=>∃d g,Stp F m H d g f/\Rel X.K d f g D/\RP X.K d f v x) I ⟨F,m,L,S,v,D,r,l,Z,fun x d g f n G j=>⟨d,g,n,G,j⟩⟩) fun u n E=>?_
 obtain⟨x,f,c,M,d,g,st,G,j⟩:=E;have mk:∀{J:It},Ck X.K J O d g f->D=Y->R J f:=fun it e=>by subst e;exact k _ d g f st G it
 have i:∀{a:Addr}{A:List V},x=.ref a->gL X.K f a A->R (Ip X.K a) f->wpAny (model X.prog X.w) X.A (pyIter u) (Im X B N T R) X.xe n:=fun {a A} e hq q=>by
  subst e;cases M;obtain⟨K,rv,p,E⟩:=c.list hq;refine wpAny_pyIter_list p.isList ?_;refine⟨n.heap.objs.size,[n.heap.objs.size],_,_,f,rfl,c.kept (t':=n.toks) fun b o e=>Heap.get?_push_of_some _ e,wG a _,⟨_,Heap.get?_push_size _ rfl,rfl,rfl⟩,fun b y=>?_,q⟩;have e:b=n.heap.objs.size:=by simpa using y
  subst e;exact c.fpOk (Nat.le_refl _) (c.hok.fresh (Nat.le_refl _))
 cases v with
 | lst Q=>cases q;obtain⟨a,A,rfl,w,P⟩:=j;exact i rfl w.sq (mk (y_ (fun U m2 W s=>(w.kp s.kp).sq) P) rfl)
 | ro Q=>cases q;obtain⟨a,A,rfl,w,P⟩:=j;exact i rfl w.sq (mk (y_ (fun U m2 W s=>(w.kp s.kp).sq) P) rfl)
 | tup Q=>
  cases q;obtain⟨a,A,rfl,w,P⟩:=j;cases M;obtain⟨K,rv,pp,E⟩:=c.tuple w.sq;refine wpAny_pyIter_tuple (show n.heap.IsTuple a K.toArray from pp) ?_;refine⟨n.heap.objs.size,[n.heap.objs.size],_,_,f,rfl,c.kept (t':=n.toks) fun b o e=>Heap.get?_push_of_some _ e,uo a _,⟨_,Heap.get?_push_size _ rfl,rfl,rfl⟩,fun b y=>?_,mk (D1 w P) rfl⟩;have e:b=n.heap.objs.size:=by simpa using y
  subst e;exact c.fpOk (Nat.le_refl _) (c.hok.fresh (Nat.le_refl _))
 | str z=>
  dsimp only at q;split at q
  .rename_i ha;cases q;cases (show x=.str z from j);obtain⟨t,rfl⟩:=(show ∃t,u=Value.str z t from M);refine wpAny_pyIter_ascii ha ?_;refine⟨n.heap.objs.size,[n.heap.objs.size],_,_,f,rfl,c.kept (t':=n.toks) fun b o e=>Heap.get?_push_of_some _ e,wF _ z t,⟨_,Heap.get?_push_size _ rfl,rfl,rfl⟩,fun b y=>?_,mk D0 rfl⟩;have e:b=n.heap.objs.size:=by simpa using y
   subst e;exact c.fpOk (Nat.le_refl _) (c.hok.fresh (Nat.le_refl _))
  .cases q
 | _=>cases q
end
section
variable {X:Cx}{J p:Pos}
noncomputable abbrev DE:=List (Str×EV)
end
mutual
noncomputable def pd:P->PyData
 | .non=>.none
 | .bl b=>.bool b
 | .int i=>.int i
 | .str x=>.str x
 | .tup xs=>.tuple (ma xs)
 | .lst xs=>.list (ma xs)
 | .ro xs=>.list (ma xs)
 | .dct _ _=>.none
noncomputable def ma:List P->List PyData
 | []=>[]
 | x::r=>pd x::ma r
end
noncomputable def cc:Nat->P->Bool
 | _,.non=>true
 | _,.bl _=>true
 | _,.int _=>true
 | _,.str x=>PyData.strOk x
 | n+1,.tup s=>s.all (cc n)
 | n+1,.lst s=>s.all (cc n)
 | n+1,.ro s=>s.all (cc n)
 | _,_=>false
variable {n:Nat}
theorem mL:∀{s:List P},(∀d ∈ s,(pd d).canLay0=true/\(pd d).depth≤n)->PyData.canLayAll0 (ma s)=true/\PyData.depthAll (ma s)≤n
 | [],_=>⟨rfl,Nat.zero_le _⟩
 | d::r,h=>by obtain⟨⟨p,a⟩,q⟩:=List.forall_mem_cons.mp h;obtain⟨x,e⟩:=mL q;exact⟨by simp only [ma,PyData.canLayAll0,p,x,Bool.and_self],by simp only [ma,PyData.depthAll];lia⟩
theorem fB:∀(n:Nat) (p:P),cc n p=true->(pd p).canLay0=true/\(pd p).depth≤n
 | _,.non,_=>⟨rfl,Nat.zero_le _⟩
 | _,.bl _,_=>⟨rfl,Nat.zero_le _⟩
 | _,.int _,_=>⟨rfl,Nat.zero_le _⟩
 | n,.str x,h=>⟨by cases n <;> exact h,Nat.zero_le _⟩
 | n,.dct _ _,h=>by cases n <;> cases h
 | 0,.tup _,h=>by cases h
 | 0,.lst _,h=>by cases h
 | 0,.ro _,h=>by cases h
 | n+1,.tup s,h=>by obtain⟨a,b⟩:=mL fun d hd=>fB n d (bq.mp h d hd);exact⟨a,by simp only [pd,PyData.depth];lia⟩
 | n+1,.lst s,h=>by obtain⟨a,b⟩:=mL fun d hd=>fB n d (bq.mp h d hd);exact⟨a,by simp only [pd,PyData.depth];lia⟩
 | n+1,.ro s,h=>by obtain⟨a,b⟩:=mL fun d hd=>fB n d (bq.mp h d hd);exact⟨a,by simp only [pd,PyData.depth];lia⟩
theorem ir (h:cc 20 p=true):SeqAt.shaped (pd p)=true:=by obtain⟨x,a⟩:=fB 20 p h;unfold SeqAt.shaped;rw [x,Bool.true_and];exact h_ (by lia)
section
variable {X:Cx}{B:PN}{N:L2.St}{H:Hp}{s:Shared}{F:Aa}
theorem gM (o:∀{p:P}{v:V}{u:Value},RP X.K F H p v->RelV v u->cc n p=true->∃k,Reads s.heap u (pd p) k) :
  ∀{f:List P}{a:List V}{b:LV},b9 X.K F H f a->aI a b->(∀d ∈ f,cc n d=true)->∃k,ReadsAll s.heap b (ma f) k
 | [],a,b,r,v,_=>by cases (show a=[] from r);cases v;exact⟨_,.nil⟩
 | d::f,a,b,r,v,h=>by
  obtain⟨x,i,rfl,p,r⟩:=r;cases v with
  | cons w t=>obtain⟨k,q⟩:=o p w (h d (.head _));obtain⟨g,m⟩:=gM o r t fun e c=>h e (.tail _ c);exact⟨_,.cons q m⟩
theorem hJ (I:Inv X B N H s):∀(n:Nat) {p:P}{v:V}{u:Value},RP X.K F H p v->RelV v u->cc n p=true->∃w,Reads s.heap u (pd p) w:=by
 intro n;induction n with
 | zero=>
  intro p v u r k h;cases p with
  | non=>cases (show v=.non from r);cases k;exact⟨_,.none⟩
  | bl b=>cases (show v=.bl b from r);cases k;exact⟨_,.bool b⟩
  | int i=>cases (show v=.int i from r);obtain⟨t,rfl⟩:=k;exact⟨_,.int i t⟩
  | str x=>cases (show v=.str x from r);obtain⟨t,rfl⟩:=k;exact⟨_,.str x t⟩
  | _=>simp [cc] at h
 | succ n y=>
  intro p v u r k h;cases p with
  | non=>cases (show v=.non from r);cases k;exact⟨_,.none⟩
  | bl b=>cases (show v=.bl b from r);cases k;exact⟨_,.bool b⟩
  | int i=>cases (show v=.int i from r);obtain⟨t,rfl⟩:=k;exact⟨_,.int i t⟩
  | str x=>cases (show v=.str x from r);obtain⟨t,rfl⟩:=k;exact⟨_,.str x t⟩
  | dct A O=>simp [cc] at h
  | tup z=>obtain⟨a,K,rfl,l,j⟩:=r;cases k;obtain⟨g,f,⟨o,e,c,m,d⟩,S⟩:=I.tuple l.sq;obtain⟨w,q⟩:=gM y j f (by simpa [cc] using h);rw [pd];exact⟨w,reads_tuple_at e c d (by simpa using q)⟩
  | lst z=>obtain⟨a,K,rfl,l,j⟩:=r;cases k;obtain⟨g,f,⟨o,m,e,c,_,d⟩,S⟩:=I.list l.sq;obtain⟨w,q⟩:=gM y j f (by simpa [cc] using h);rw [pd];exact⟨_,reads_list_at e c d (by simpa using q)⟩
  | ro z=>obtain⟨a,K,rfl,l,j⟩:=r;cases k;obtain⟨g,f,⟨o,m,e,c,_,d⟩,S⟩:=I.list l.sq;obtain⟨w,q⟩:=gM y j f (by simpa [cc] using h);rw [pd];exact⟨_,reads_list_at e c d (by simpa using q)⟩
end
noncomputable def oo (f:D->Option P):List D->Option (List P)
 | []=>some []
 | d::r=>(f d).bind fun v=>(oo f r).map fun O=>v::O
noncomputable def dS (S:aF):Nat->D->Option P
 | _,.p v=>some v
 | 0,.ref _=>none
 | n+1,.ref i=>match S[i]? with
  | some (.lst d)=>(oo (dS S n) d).map .lst
  | some (.fz v)=>some v
  | _=>none
@[simp] theorem uA (S:aF) (n:Nat) (v:P):dS S n (.p v)=some v:=by cases n <;> rfl
section
variable {X:Cx}{B:PN}{N:L2.St}{H:Hp}{s:Shared}{F:Aa}{m:List Addr}{S:aF}
theorem nw (o:∀{d:D}{v:V}{u:Value}{p:P},RD X.K F H m d v->RelV v u->dS S n d=some p->cc L p=true->∃b,Reads s.heap u (pd p) b) :
  ∀{k:List D}{f:List V}{c:LV}{ps:List P},dc X.K F H m k f->aI f c->oo (dS S n) k=some ps->(∀d ∈ ps,cc L d=true)->∃b,ReadsAll s.heap c (ma ps) b
 | [],f,c,ps,r,v,q,_=>by cases (show f=[] from r);cases v;cases q;exact⟨_,.nil⟩
 | d::k,f,c,ps,r,v,q,h=>by
  obtain⟨x,A,rfl,p,r⟩:=r;obtain⟨y,i,q⟩:∃a,dS S n d=some a/\(oo (dS S n) k).map (fun O=>a::O)=some ps:=by
   cases e:dS S n d with
   | none=>simp [oo,e] at q
   | some a=>exact⟨a,rfl,by simpa [oo,e] using q⟩
  obtain⟨B,j,rfl⟩:∃a,oo (dS S n) k=some a/\ps=y::a:=by
   cases e:oo (dS S n) k with
   | none=>rw [e] at q;cases q
   | some a=>rw [e] at q;cases q;exact⟨a,rfl,rfl⟩
  cases v with
  | cons z l=>obtain⟨b,g⟩:=o p z i (h y (.head _));obtain⟨K,t⟩:=nw o r l j fun e w=>h e (.tail _ w);exact⟨_,.cons g t⟩
theorem dB (I:Inv X B N H s) (y:Rel X.K F H m S):∀(n k:Nat) {d:D}{v:V}{u:Value}{p:P},RD X.K F H m d v->RelV v u->dS S n d=some p->cc k p=true->∃b,Reads s.heap u (pd p) b:=by
 intro n;induction n with
 | zero=>
  intro k d v u p r x q h;cases d with
  | p w=>rw [uA] at q;cases q;exact hJ I k r x h
  | ref i=>cases q
 | succ n C=>
  intro k d v u p r x q h;cases d with
  | p w=>rw [uA] at q;cases q;exact hJ I k r x h
  | ref i=>
   obtain⟨a,rfl,g⟩:=r;have A:i < S.length:=by rw [<- y.len];exact (List.getElem?_eq_some_iff.mp g).1
   obtain⟨o,j⟩:∃o,S[i]? = some o:=⟨S[i],by simp [A]⟩;have l:=y.obj i a o g j;simp only [dS,j] at q;cases o with
   | fz w=>cases q;exact hJ I k l x h
   | dct L t=>cases q
   | ins _ _ _=>cases q
   | exc _=>cases q
   | dtt _ _=>cases q
   | lst t=>
    dsimp only at q;cases e:oo (dS S n) t with
    | none=>rw [e] at q;cases q
    | some O=>
     rw [e] at q;cases q;cases k with
     | zero=>simp [cc] at h
     | succ k=>obtain⟨Q,K,G⟩:=l;cases x;obtain⟨E,f,⟨o,M,z,c,_,d⟩,J⟩:=I.list (gL.of K);obtain⟨b,q⟩:=nw (L:=k) (fun r x q h=>C k r x q h) G f e (by simpa [cc] using h);rw [pd];exact⟨_,reads_list_at z c d (by simpa using q)⟩
theorem fA (l:Rel X.K F H m S) (r:RD X.K F H m u v) (q:dS S n u=some p) (k:∀c,p≠.lst c):RP X.K F H p v:=by
 cases u with
 | p w=>rw [uA] at q;cases q;exact r
 | ref i=>
  cases n with
  | zero=>cases q
  | succ n=>
   obtain⟨a,rfl,h⟩:=r;have s:i < S.length:=by rw [<- l.len];exact (List.getElem?_eq_some_iff.mp h).1
   obtain⟨o,x⟩:∃o,S[i]? = some o:=⟨S[i],by simp [s]⟩;have b:=l.obj i a o h x;simp only [dS,x] at q;cases o with
   | fz w=>cases q;exact b
   | dct t d=>cases q
   | ins _ _ _=>cases q
   | exc _=>cases q
   | dtt _ _=>cases q
   | lst d=>
    dsimp only at q;cases e:oo (dS S n) d with
    | none=>rw [e] at q;cases q
    | some f=>rw [e] at q;cases q;exact absurd rfl (k f)
end
inductive rEI (K:FG) (g:D->D->aF->Option P) (x:V) (y:V) (H:Hp) (Q:VK):Prop
 | mk (F:Aa) (m:List Addr) (S:aF) (d:D) (e:D) (v:P) (h0_:Rel K F H m S) (h1_:RD K F H m d x) (h2_:RD K F H m e y) (h3_:g d e S=some v) (h4_:∀u F' H',Grow F H F' H'->RP K F' H' v u->Q u H'):rEI K g x y H Q
noncomputable def rE (K:FG) (g:D->D->aF->Option P):R2:=fun x y H Q=>rEI K g x y H Q
noncomputable def aE (g:D->D->aF->Option P) (a b:EE):EV:=fun L S=>aH (a L S) fun x e=>aH (b L e) fun y h=>(g x y h).map fun v=>(v,h)
section
variable {X:Cx}{a b:Expr}{C U:EE}{J:Pos}
theorem vD (h:tV X.K (aE a0 C U) N H Q):CM (rE X.K a0) (tE X.K C) (tE X.K U) N H Q:=by
 obtain⟨F,m,L,S,d,o,r,l,q,k⟩:=h;obtain⟨x,a,K,q⟩:=af q;obtain⟨y,s,P,q⟩:=af q;refine⟨F,m,L,S,x,a,r,l,K,fun v t A I b G B=>?_⟩;refine⟨t,A,L,a,y,s,G,l.mono b,P,fun u p n J c f D=>?_⟩;cases e:a0 x y s with
 | none=>rw [e] at q;cases q
 | some z=>rw [e] at q;cases q;exact⟨p,n,o,x,y,_,f,RD.mono c B,D,e,fun w i j g E=>k w i n j (b.trans (c.trans g.stp)) (f.grow g) E⟩
theorem E9 (o:g9 X (compareOp v) (rE X.K r)) (x:PE X a (tE X.K C)) (e:PE X b (tE X.K U)) (m:behindInMarks v b=false):PE X (.Compare a [v] [b] J) (tV X.K (aE r C U)):=
 (vP o x e m).imp' fun _ _ _ h=>vD h
theorem EY (o:g9 X (compareOp op) (rE X.K u)) (c:PE X a (tE X.K C)) (t:PE X b (tE X.K U)) (w:behindInMarks op b=false):PT X (.Compare a [op] [b] J) (tQ X.K (bV (aE u C U))):=
 (vL o c t w).imp' fun N H Q h=>by
  refine vD ?_;obtain⟨F,m,L,S,d,j,r,l,q,k⟩:=h;obtain⟨x,y,f,q⟩:=af q;cases x with
  | bl b=>cases q;exact⟨F,m,L,S,_,_,r,l,f,fun v e g n s i p=>⟨_,p,k e g n s i⟩⟩
  | _=>cases q
end
noncomputable def Ag (x y:P):Option Bool:=match u7 x y with
 | some (.bl b)=>some b
 | _=>if (cc 20 x && cc 20 y)=true then some (PyData.eqv (pd x) (pd y)) else none
noncomputable def eC (d e:D) (S:aF):Option P:=(dS S 9 d).bind fun x=>(dS S 9 e).bind fun y=>(Ag x y).map .bl
noncomputable def w4 (x y:P):Option Bool:=match Eb x y with
 | some (.bl b)=>some b
 | _=>if (cc 20 x && cc 20 y)=true then some (!PyData.eqv (pd x) (pd y)) else none
noncomputable def ou (d e:D) (S:aF):Option P:=(dS S 9 d).bind fun x=>(dS S 9 e).bind fun y=>(w4 x y).map .bl
noncomputable def jM (c:D) (S:aF):Option (List bC):=match c with
 | .p (.dct k _)=>some k
 | .ref i=>match S[i]? with
  | some (.dct k _)=>some k
  | some (.fz (.dct k _))=>some k
  | _=>none
 | _=>none
noncomputable def Ew (x c:P):Option Bool:=match x,c with
 | .str i,.str j=>some (!(Builtin.Str.occurrences j i 0 j.length 1).isEmpty)
 | x,.lst s=>if (s.all (cc 19) && cc 19 x)=true then some (s.any fun y=>PyData.eqv (pd y) (pd x)) else none
 | x,.ro s=>if (s.all (cc 19) && cc 19 x)=true then some (s.any fun y=>PyData.eqv (pd y) (pd x)) else none
 | x,.tup s=>if (s.all (cc 19) && cc 19 x)=true then some (s.any fun y=>PyData.eqv (pd y) (pd x)) else none
 | _,_=>none
noncomputable def xk (k:bC) (s:List bC):Bool:=s.any fun h=>decide (h=k)
noncomputable def Ae (d c:D) (S:aF):Option Bool:=match jM c S with
 | some s=>(dS S 9 d).bind fun x=>(bZ x).map fun k=>xk k s
 | none=>(dS S 9 d).bind fun x=>(dS S 9 c).bind fun y=>Ew x y
noncomputable def Af (d c:D) (S:aF):Option P:=(Ae d c S).map .bl
noncomputable def jd (d c:D) (S:aF):Option P:=(Ae d c S).map fun b=>.bl (!b)
noncomputable def dO:D->Bool
 | .p .non=>true
 | _=>false
noncomputable def rW (d e:D) (_:aF):Option P:=match e with
 | .p .non=>some (.bl (dO d))
 | _=>none
noncomputable def cW (d e:D) (_:aF):Option P:=match e with
 | .p .non=>some (.bl (!dO d))
 | _=>none
theorem u6 (h:u7 x r=some b):(∀s,x≠.lst s)/\∀s,r≠.lst s:=by
 refine⟨fun s e=>?_,fun s e=>?_⟩
 .subst e;cases r <;> cases h
 .subst e;cases x <;> cases h
section
variable {X:Cx}
theorem Gb (o:X.A.units+64 < cLine):g9 X (compareOp .Eq) (rE X.K eC):=by
 intro B s N H x y v u Q I j z h;obtain⟨F,m,S,d,e,r,l,g,i,q,k⟩:=h;unfold eC at q;cases t:dS S 9 d with
 | none=>rw [t] at q;cases q
 | some a=>
  rw [t] at q;cases p:dS S 9 e with
  | none=>rw [p] at q;cases q
  | some b=>
   rw [p] at q;simp only [kU] at q;cases n:Ag a b with
   | none=>rw [n] at q;cases q
   | some c=>
    rw [n] at q;cases q;unfold Ag at n;split at n
    .rename_i G w;cases n;obtain⟨K,P⟩:=u6 w;exact Gc (by lia) B s N H x y v u Q I j z ⟨F,a,b,.bl c,l.ft,fA l g t K,fA l i p P,w,k⟩
    .split at n
     .rename_i f;rw [Bool.and_eq_true] at f;cases n;obtain⟨D,A⟩:=dB I l 9 20 g j t f.1;obtain⟨E,C⟩:=dB I l 9 20 i z p f.2;exact eq_dataH A C (ir f.1) (ir f.2) o ⟨.bl _,H,I,rfl,k _ F H .refl rfl⟩
     .cases n
theorem xA (h:Eb x r=some b):(∀s,x≠.lst s)/\∀s,r≠.lst s:=by
 refine⟨fun s e=>?_,fun s e=>?_⟩
 .subst e;cases r <;> cases h
 .subst e;cases x <;> cases h
theorem F5 (o:X.A.units+64 < cLine):g9 X (compareOp .NotEq) (rE X.K ou):=by
 intro B s N H x y v u Q I j z h;obtain⟨F,m,S,d,e,r,l,g,i,q,k⟩:=h;unfold ou at q;cases t:dS S 9 d with
 | none=>rw [t] at q;cases q
 | some a=>
  rw [t] at q;cases p:dS S 9 e with
  | none=>rw [p] at q;cases q
  | some b=>
   rw [p] at q;simp only [kU] at q;cases n:w4 a b with
   | none=>rw [n] at q;cases q
   | some c=>
    rw [n] at q;cases q;unfold w4 at n;split at n
    .rename_i G w;cases n;obtain⟨K,P⟩:=xA w;exact Jx B s N H x y v u Q I j z ⟨F,a,b,.bl c,l.ft,fA l g t K,fA l i p P,w,k⟩
    .split at n
     .rename_i f;rw [Bool.and_eq_true] at f;cases n;obtain⟨D,A⟩:=dB I l 9 20 g j t f.1;obtain⟨E,C⟩:=dB I l 9 20 i z p f.2;exact ne_dataH A C (ir f.1) (ir f.2) o ⟨.bl _,H,I,rfl,k _ F H .refl rfl⟩
     .cases n
theorem ko (x:P):∀s:List P,(ma s).any (fun y=>PyData.eqv y (pd x))=s.any fun y=>PyData.eqv (pd y) (pd x)
 | []=>rfl
 | y::r=>by rw [ma,e_,e_,ko x r]
theorem yN (h:r.all (cc 19)=true):PyData.canLayAll0 (ma r)=true/\PyData.depthAll (ma r)≤20:=by have l:=fB 20 (.lst r) h;simp only [pd,PyData.canLay0,PyData.depth] at l;have x:=l.2;exact⟨l.1,by lia⟩
theorem oS:(fG u v).isSome=xk v (u.map (·.1)):=by
 induction u with
 | nil=>rfl
 | cons p r i=>
  unfold xk at i ⊢;by_cases h:p.1=v
  .rw [gy h,List.map_cons,e_,h_ h];rfl
  .rw [fF h,i,List.map_cons,e_,bv h];rfl
theorem tM {K:FG}{F:Aa}{H:Hp}{m:List Addr}{S:aF}{c:D}{y:V}{n:List bC} (r:Rel K F H m S) (p:RD K F H m c y) (q:jM c S=some n):∃a k,y=.ref a/\H a=some (.dK k)/\k.map (·.1)=n:=by
 unfold jM at q;split at q
 .cases q;obtain⟨a,k,e,_,x,h,_⟩:=p;exact⟨a,k,e,x,h⟩
 .rename_i i;obtain⟨a,rfl,s⟩:=p;split at q
  .rename_i o;cases q;obtain⟨k,x,h,_⟩:=r.obj i a _ s o;exact⟨a,k,rfl,x,h⟩
  .rename_i o;cases q;obtain⟨b,k,e,_,x,h,_⟩:=r.obj i a _ s o;cases e;exact⟨a,k,rfl,x,h⟩
  .cases q
 .cases q
theorem F_ (T:X.A.units+64 < cLine):g9 X (compareOp .In) (rE X.K Af):=by
  intro B s N H x y v u Q I o K h;obtain⟨F,m,S,d,e,r,l,g,i,q,k⟩:=h;unfold Af Ae at q;cases w:jM e S with
  | some U=>
    rw [w] at q;dsimp only at q;cases t:dS S 9 d with
    | none=>rw [t] at q;cases q
    | some a=>
      rw [t] at q;simp only [kU] at q;cases f:bZ a with
      | none=>rw [f] at q;cases q
      | some J=>
        rw [f] at q;cases q;obtain⟨b,L,rfl,G,n⟩:=tM l i w;have M:RP X.K F H a x:=fA l g t fun D z=>by subst z;cases f
        cases K;cases fH f M;exact JS (by lia) I (g_.k G) o fun V E=>⟨.bl _,H,E,rfl,by rw [oS,n];exact k _ F H .refl rfl⟩
  | none=>
    rw [w] at q;dsimp only at q;cases t:dS S 9 d with
    | none=>rw [t] at q;cases q
    | some a=>
      rw [t] at q;cases f:dS S 9 e with
      | none=>rw [f] at q;cases q
      | some b=>
        rw [f] at q;simp only [kU] at q;cases n:Ew a b with
        | none=>rw [n] at q;cases q
        | some c=>
          rw [n] at q;cases q;unfold Ew at n;split at n
          · cases n
            cases (show x=.str _ from fA l g t fun D z=>by cases z);cases (show y=.str _ from fA l i f fun D z=>by cases z);exact wX B s N H _ _ v u Q I o K ⟨_,_,rfl,rfl,k _ F H .refl rfl⟩
          all_goals first
            | (cases n;done)
            | (split at n
               · rename_i p
                 rw [Bool.and_eq_true] at p;cases n;obtain⟨O,j⟩:=dB I l 9 20 i K f (by simpa [cc] using p.1);obtain⟨R,C⟩:=dB I l 9 19 g o t p.2;have P:=yN p.1;have A:=fB 19 _ p.2;rw [pd] at j;first
                   | exact SeqAt.in_list_reads j C P.1 A.1 (by lia) ⟨.bl _,H,I,rfl,by rw [ko];exact k _ F H .refl rfl⟩
                   | exact SeqAt.in_tuple_reads j C P.1 A.1 (by lia) ⟨.bl _,H,I,rfl,by rw [ko];exact k _ F H .refl rfl⟩
               · cases n)
theorem yL (T:X.A.units+64 < cLine):g9 X (compareOp .NotIn) (rE X.K jd):=by
  intro B s N H x y v u Q I o K h;obtain⟨F,m,S,d,e,r,l,g,i,q,k⟩:=h;unfold jd Ae at q;cases w:jM e S with
  | some U=>
    rw [w] at q;dsimp only at q;cases t:dS S 9 d with
    | none=>rw [t] at q;cases q
    | some a=>
      rw [t] at q;simp only [kU] at q;cases f:bZ a with
      | none=>rw [f] at q;cases q
      | some J=>
        rw [f] at q;cases q;obtain⟨b,L,rfl,G,n⟩:=tM l i w;have M:RP X.K F H a x:=fA l g t fun D z=>by subst z;cases f
        cases K;cases fH f M;exact Bx (by lia) I (g_.k G) o fun V E=>⟨.bl _,H,E,rfl,by rw [oS,n];exact k _ F H .refl rfl⟩
  | none=>
    rw [w] at q;dsimp only at q;cases t:dS S 9 d with
    | none=>rw [t] at q;cases q
    | some a=>
      rw [t] at q;cases f:dS S 9 e with
      | none=>rw [f] at q;cases q
      | some b=>
        rw [f] at q;simp only [kU] at q;cases n:Ew a b with
        | none=>rw [n] at q;cases q
        | some c=>
          rw [n] at q;cases q;unfold Ew at n;split at n
          · cases n
            cases (show x=.str _ from fA l g t fun D z=>by cases z);cases (show y=.str _ from fA l i f fun D z=>by cases z);exact qx B s N H _ _ v u Q I o K ⟨_,_,rfl,rfl,k _ F H .refl rfl⟩
          all_goals first
            | (cases n;done)
            | (split at n
               · rename_i p
                 rw [Bool.and_eq_true] at p;cases n;obtain⟨O,j⟩:=dB I l 9 20 i K f (by simpa [cc] using p.1);obtain⟨R,C⟩:=dB I l 9 19 g o t p.2;have P:=yN p.1;have A:=fB 19 _ p.2;rw [pd] at j;first
                   | exact SeqAt.notIn_list_reads j C P.1 A.1 (by lia) ⟨.bl _,H,I,rfl,by rw [ko];exact k _ F H .refl rfl⟩
                   | exact SeqAt.notIn_tuple_reads j C P.1 A.1 (by lia) ⟨.bl _,H,I,rfl,by rw [ko];exact k _ F H .refl rfl⟩
               · cases n)
theorem F9:g9 X (compareOp .Is) (rE X.K rW):=by
 intro B s N H x y v u Q I c t h;obtain⟨F,m,S,d,e,r,l,n,f,q,k⟩:=h;unfold rW at q;split at q
 .cases q;cases (show y=.non from f);refine Dr B s N H x _ v u Q I c t ⟨rfl,?_⟩;have:decide (x=.non)=dO d:=by
   cases d with
   | ref i=>obtain⟨a,rfl,_⟩:=n;rfl
   | p w=>
    cases w with
    | non=>cases (show x=.non from n);rfl
    | bl b=>cases (show x=.bl b from n);rfl
    | int b=>cases (show x=.int b from n);rfl
    | str b=>cases (show x=.str b from n);rfl
    | _=>(obtain⟨a,g,rfl,_⟩:=n;rfl)
  rw [this];exact k _ F H .refl rfl
 .cases q
theorem yM:g9 X (compareOp .IsNot) (rE X.K cW):=by
 intro B s N H x y v u Q I c t h;obtain⟨F,m,S,d,e,r,l,n,f,q,k⟩:=h;unfold cW at q;split at q
 .cases q;cases (show y=.non from f);refine A3 B s N H x _ v u Q I c t ⟨rfl,?_⟩;have:decide (x=.non)=dO d:=by
   cases d with
   | ref i=>obtain⟨a,rfl,_⟩:=n;rfl
   | p w=>
    cases w with
    | non=>cases (show x=.non from n);rfl
    | bl b=>cases (show x=.bl b from n);rfl
    | int b=>cases (show x=.int b from n);rfl
    | str b=>cases (show x=.str b from n);rfl
    | _=>(obtain⟨a,g,rfl,_⟩:=n;rfl)
  rw [this];exact k _ F H .refl rfl
 .cases q
end
noncomputable def nH:List iK->List P->Lc->Option Lc
 | [],[],L=>some L
 | g::s,v::O,L=>match g v L with
  | some h=>nH s O h
  | none=>none
 | _,_,_=>none
noncomputable def bn (g:List iK):iK:=fun v L=>match v with
 | .tup O=>nH g O L
 | _=>none
theorem sU:∀{s:List iK}{O:List P}{L x:Lc},nH s O L=some x->O.length=s.length
 | [],[],_,_,_=>rfl
 | [],_::_,_,_,h=>by cases h
 | _::_,[],_,_,h=>by cases h
 | g::s,v::O,L,x,h=>by
  unfold nH at h;split at h
  .rw [bt,bt,sU h]
  .cases h
inductive gTsI (K:FG) (gs:List iK) (xs:List V) (σ:L2.St) (H:Hp) (Q:L2.St->Hp->Prop):Prop
 | mk (F:Aa) (m:List Addr) (L:Lc) (vs:List P) (L':Lc) (h0_:RL K F H m σ L) (h1_:b9 K F H vs xs) (h2_:nH gs vs L=some L') (h3_:∀σ',RL K F H m σ' L'->Q σ' H):gTsI K gs xs σ H Q
noncomputable def La (K:FG) (g:List iK):En:=fun x N H Q=>gTsI K g x N H Q
noncomputable def D3:Expr->Bool
 | .Name _ _=>true
 | _=>false
inductive GsOk (X:Cx):Ab->List iK->Prop where
 | nil:GsOk X [] []
 | cons {e:Expr}{es:Ab}{g:iK}{gs:List iK}:D3 e=true->PG X e (gT X.K g)->GsOk X es gs->GsOk X (e::es) (g::gs)
section
variable {X:Cx}{J:Pos}
theorem jT (h:D3 e=true):assignEach (e::es) v=(false,assign e v)::assignEach es v:=by cases e <;> first | rfl | cases h
theorem GsOk.len (h:GsOk X es r) (e:Env):(assignEach es e).length=r.length/\(assignEach es e).findIdx? (·.1)=none:=by
 induction h with
 | nil=>exact⟨rfl,rfl⟩
 | cons n _ _ i=>rw [jT n];refine⟨by rw [bt,bt,i.1],?_⟩;simp only [List.findIdx?_cons,i.2];rfl
theorem GsOk.pgs (h:GsOk X es gs):Hm X es (La X.K gs):=by
 induction h with
 | nil=>
  intro B s N H f u Q I a ⟨F,m,L,O,e,l,r,q,k⟩;cases O with
  | nil=>cases q;cases (show f=[] from r);exact AX B s N H [] u Q I a ⟨rfl,k N l⟩
  | cons _ _=>cases q
 | cons c g _ i=>
  intro B s N H f u Q I a ⟨F,m,L,O,e,l,r,q,k⟩;cases O with
  | nil=>cases q
  | cons v O=>
   unfold nH at q;split at q
   .rename_i n b;obtain⟨x,d,rfl,p,r⟩:=r;refine yv g i (by rw [jT c];rfl) B s N H _ u Q I a ⟨x,d,rfl,F,m,L,v,n,l,p,b,fun w t=>?_⟩;exact⟨F,m,n,O,e,t,r,q,k⟩
   .cases q
theorem D5 (c:X.calm=true) (h:GsOk X es r):PG X (.Tuple es n J) (gT X.K (bn r)):=
 PG.imp' (Dd c h.pgs (h.len _).1 (h.len _).2) fun v N H Q z=>by
  obtain⟨F,m,L,d,x,l,p,q,k⟩:=z;cases d with
  | tup O=>obtain⟨a,f,rfl,t,e⟩:=p;have s:=sU (show nH r O L=some x from q);exact⟨a,f,rfl,t.sq,by rw [<- e.length];exact s,F,m,L,O,x,l,e,q,k⟩
  | _=>cases q
noncomputable def BR (K:FG) (a:Addr):It:=
 ⟨fun i H=>∃s x,gL K H a s/\s[i]? = some x,fun i H x h=>∃p y,x=.ref p/\H p=none/\h=cf H p (.tup [.int i,y])/\∀s,gL K H a s->s[i]? = some y,fun i H=>∃s,gL K H a s/\s.length≤i⟩
theorem wH {P:Program}{w:World}{K:FG}{es:Ab}{n:Nat} (a e t:Addr) (C:e≠t):Turn P w K (.Tuple es n J) (BR K a) [e,t] e (fun i h=>(∃l,IsEnum h e t i l)/\h.IsListIter t a i) where
 mem:=by simp
 obj:=fun i h st b p=>by
  obtain⟨⟨l,A⟩,⟨o,ho,c,d⟩⟩:=st;have:b=e\/b=t:=by simpa using p
  rcases this with rfl | rfl
  .exact⟨_,A,fun v z=>by have z':Data.fields _=Data.cell v:=z;cases z'⟩
  .exact⟨o,ho,fun v z=>by rw [d] at z;cases z⟩
 keep:=fun i h h' st k=>by obtain⟨⟨l,A⟩,y⟩:=st;exact⟨⟨l,k e (by simp) _ A⟩,y.at fun o q=>k t (by simp) o q⟩
 item:=by
  intro X hP hw Z f i B s N H E I R st hg;subst hP hw Z;obtain⟨xs,x,T,hx⟩:=hg;obtain⟨its,rv,pl,hz⟩:=I.list T;obtain⟨u,hu,ru⟩:=rv.get hx;obtain⟨⟨l,A⟩,y⟩:=st;obtain⟨f0,f1,f2,f3,f4,f5⟩:=R e (by simp);obtain⟨M,O,g2,V,W,Y⟩:=R t (by simp);refine wpAny_pyNext_enum_item A y pl.isList (x:=u) (by simpa using hu) C fun h1 ho1 G ht1 hz1 hk1=>?_
  refine⟨_,rfl,wpAny_letOwnedTupleGo_enum (s:={ s with heap:=h1,toks:=s.toks+1 }) ho1 fun Q he2 F=>?_⟩;replace F:Heap.SameBut e h1 Q:=F;have D:e < s.heap.objs.size:=Heap.lt_size A;have S:∀b o,b≠e->b≠t->s.heap.get? b=some o->Q.get? b=some o:=fun b o b1 b2 q=>(F.2 b b1).trans (hk1 b o b1 b2 q);have L:Q.get? s.heap.objs.size=some { cls:=.type "tuple",data:=.seq #[.int i s.toks,u] }:=(F.2 _ (cD D)).trans ht1;have j:H s.heap.objs.size=none:=I.hok.fresh (Nat.le_refl _);have U:∀{b:Addr}{o:HO},H b=some o->b≠e/\b≠t:=fun {b o} q=>⟨fun z=>(by rw [z,f0] at q;cases q),fun z=>(by rw [z,M] at q;cases q)⟩;have g:∀b,b ∉ [e,t]->b≠e/\b≠t:=fun b p=>⟨fun z=>p (by simp [z]),fun z=>p (by simp [z])⟩;have I':Inv X B N (cf H s.heap.objs.size (.tup [.int i,x])) { s with heap:=Q,gens:=s.gens,drawn:=s.drawn,toks:=s.toks+1 }:=by
   refine I.step (ch:=[e,t]) (fun b p=>?_) (fun b o _ _ f q _=>S b o (g b f).1 (g b f).2 q) (fun b o _ _ f q _=>⟨o.slots,S b o (g b f).1 (g b f).2 q⟩) (fun b o _ q n=>?_) (fun b o f q=>⟨o,S b o (g b f).1 (g b f).2 q⟩)
    (fun b ys q=>?_) (fun b o ys q=>?_) (fun b ps q=>⟨#[],?_⟩) (fun m hm=>?_) (fun b u' q=>?_) I.bare
   .have:b=e\/b=t:=by simpa using p
    rcases this with rfl | rfl
    .exact⟨f3,f1,f4,f5⟩
    .exact⟨V,O,W,Y⟩
   .rw [az (bX (Heap.lt_size q))];exact n
   .rw [az (cE q j)];exact q
   .rw [az (cE q j)];exact q
   .rw [az (cE q j),q];simp
   .obtain⟨o,es,ep,ho,r⟩:=hm;exact⟨o,es,ep,S _ o (Ne.symm f1) (Ne.symm O) ho,r⟩
   .by_cases p:b=s.heap.objs.size
    .subst p;rw [aK] at q;cases q;exact⟨by show 2≤sizeLine;decide,[.int i s.toks,u],.cons ⟨_,rfl⟩ (.cons ru .nil),⟨_,L,⟨rfl,_,rfl⟩,rfl⟩⟩
    .rw [az p] at q;refine (I.hok b u' q).stay (fun c v f z=>S c v ?_ ?_ z) (fun c z=>by rw [az (cE z j)];exact z) fun c ys z=>by rw [az (cE z j)];exact z
     .rcases f with rfl | f
      .exact (U q).1
      .exact (U f).1
     .rcases f with rfl | f
      .exact (U q).2
      .exact (U f).2
  refine⟨.ref s.heap.objs.size,_,I',rfl,⟨s.heap.objs.size,x,rfl,j,rfl,fun ys hy=>by rw [I.list_inj hy T];exact hx⟩,⟨⟨u,by simpa using he2⟩,G.at fun o q=>(F.2 t (Ne.symm C)).trans q⟩,fun b p=>?_⟩;have hb':b=e\/b=t:=by simpa using p
  obtain⟨oi,hoi,_⟩:=id y;rcases hb' with rfl | rfl
  .rw [az (bX D)];exact f0
  .rw [az (bX (Heap.lt_size hoi))];exact M
 done:=by intro X hP hw Z f i B s N H E I R st hg;subst hP hw Z;obtain⟨xs,T,hx⟩:=hg;obtain⟨its,rv,pl,hz⟩:=I.list T;obtain⟨⟨l,A⟩,y⟩:=st;obtain⟨M,O,g2,V,W,Y⟩:=R t (by simp);have hl:=rv.length;exact wpAny_pyNext_enum_end (I.ok.hd f) A y pl.isList (by simp;lia) fun h' eb=>⟨rfl,I.turned (t':=s.toks) (fun b o p e=>eb b o p e) M O V W Y⟩
 self:=fun _ _ _ _ _ st h=>by obtain⟨⟨l,A⟩,_⟩:=st;exact wpAny_pyIter_enum A h
noncomputable def b_ (k:Int):List P->List P
 | []=>[]
 | x::r=>.tup [.int k,x]::b_ (k+1) r
theorem lB:∀{O:List P}{k:Int}{i:Nat}{v:P},(b_ k O)[i]? = some v->∃x,O[i]? = some x/\v=.tup [.int (k+i),x]
 | [],_,_,_,h=>by simp [b_] at h
 | x::r,k,0,v,h=>⟨x,rfl,by simpa [b_] using h.symm⟩
 | x::r,k,i+1,v,h=>by obtain⟨y,a,e⟩:=lB (O:=r) (k:=k+1) (i:=i) (by simpa [b_] using h);refine⟨y,by simpa using a,?_⟩;rw [e];congr 3;lia
theorem fj:∀(O:List P) (k:Int),(b_ k O).length=O.length
 | [],_=>rfl
 | _::r,k=>by rw [b_,bt,bt,fj r]
noncomputable def v0 (a:EV):fN:=fun L S=>aH (a L S) fun v h=>match v with
 | .lst x=>some (b_ 0 x,h)
 | .ro x=>some (b_ 0 x,h)
 | _=>none
theorem y' {K:FG}{F:Aa}{m:List Addr}{H:Hp}{a:Addr}{O:List P}{s:List V} (t:∀h k n,Stp F m H h k n->gL K n a s) (r:b9 K F H O s):Ck K (BR K a) (b_ 0 O) F m H:=by
 intro h k n st;have q:=t h k n st;have l:=r.length;refine⟨fun i v e=>?_,⟨s,q,by rw [fj,l];exact Nat.le_refl _⟩⟩;obtain⟨d,c,rfl⟩:=lB e;obtain⟨x,f,p⟩:=r.get c;refine⟨⟨s,x,q,f⟩,fun z u y=>?_⟩;obtain⟨g,y,rfl,b,rfl,w⟩:=y;have:y=x:=by have:=w s q;rw [f] at this;cases this;rfl
 subst this;refine⟨h,b0 b,RP.newTup b ⟨_,_,rfl,?_,_,_,rfl,RP.mono st p,rfl⟩⟩;show V.int (i:Int)=V.int (0+(i:Int));rw [eK]
theorem iE {es:Ab}{n:Nat}{a:Expr}{C:EV}{p t:Pos} (hg:Gl X "enumerate") (hm:X.mg "enumerate"=none) (ha:PE X a (tV X.K C)) (G:starEach [a] X.env=[(false,eval a X.env)]):PI X (.Tuple es n J) (.Call (.Name "enumerate" p) [a] [] t) (tI X.K (v0 C)):=by
 intro B s N H R I ⟨F,m,L,S,O,S',r,l,q,k⟩;obtain⟨v,A,Y,q⟩:=af q;have Z:PA X [a] (nc X.K (aO C aW)):=Ch ha Ej (by rw [G];rfl);refine Call_ (i9 I hg hm boot_enumerate (lb (cC (Z t B s N H (fun c x=>∃f d,Stp F m H f d x/\Rel X.K f x d A/\b9 X.K f x [v] c) I ⟨F,m,L,S,[v],A,r,l,?_,fun c f d x h j K=>⟨f,d,h,j,K⟩⟩) fun us h ⟨c,x,w,Q,f,d,st,j,K⟩=>?_) (by rw [G];rfl) rfl))
 .simp only [aO,aW,Y,aA]
 obtain⟨x1,rfl,M⟩:=qq K;obtain⟨u,rfl,ru⟩:=vals1 Q;have D:∀{a:Addr}{c:List V},x1=.ref a->gL X.K x a c->R (BR X.K a) x->wpAny (model X.prog X.w) X.A (call (.type "enumerate") [u]) (fun v h=>wpAny (model X.prog X.w) X.A (pyIter v) (Im X B N (.Tuple es n J) R) X.xe h) X.xe h:=fun {a c} e hq q=>by
  subst e;cases ru;obtain⟨its,Q,pl,hz⟩:=w.list hq;refine call_enumerate_list pl.isList fun h' E o hsz hk=>?_
  refine wpAny_pyIter_enum E ?_;have g:∀b,h.heap.objs.size≤b->x b=none:=fun b y=>w.hok.fresh y;refine⟨h.heap.objs.size+1,[h.heap.objs.size+1,h.heap.objs.size],_,_,x,rfl,w.kept (t':=h.toks) hk,wH a _ _ (cD (pQ _)),⟨⟨_,E⟩,o⟩,fun b y=>?_,q⟩;have z:b=h.heap.objs.size+1\/b=h.heap.objs.size:=by simpa using y
  rcases z with rfl | rfl
  .exact w.fpOk (mB _) (g _ (mB _))
  .exact w.fpOk (Nat.le_refl _) (g _ (Nat.le_refl _))
 cases v with
 | lst W=>cases q;obtain⟨a,c,rfl,i,P⟩:=M;exact D rfl i.sq (k _ f d x st j (y' (fun T m2 U s=>(i.kp s.kp).sq) P))
 | ro W=>cases q;obtain⟨a,c,rfl,i,P⟩:=M;exact D rfl i.sq (k _ f d x st j (y' (fun T m2 U s=>(i.kp s.kp).sq) P))
 | _=>cases q
end
open PySem.AutoSeq1 (wpAny_loadPart')
theorem zS (n:Nat):(fS n=true)=(n≤1000000):=by unfold fS;simp
variable {d:Type}{Q:d->Shared->Prop}{s:Shared}
theorem HU (h:c=false) (k:wpAny M A b Q E s):wpAny M A (if c=true then a else b) Q E s:=by rw [h,if_neg bO];exact k
theorem K9 (h:c=true) (k:wpAny M A a Q E s):wpAny M A (if c=true then a else b) Q E s:=by rw [h,if_pos rfl];exact k
theorem sX (a:Array Value) (n:Nat):∀b:Array Value,((List.replicate n a).foldl (·++·) b).size=b.size+n * a.size:=by
 induction n with
 | zero=>intro b;simp
 | succ n i=>intro b;rw [di,gw,i,Array.size_append,Nat.succ_mul];lia
theorem Ax (l:Addr) (i:Array Value) (n:Nat) (e:Option Addr) (k:Array (OV)) (x:Int) (u:Tok) (c:-1000000 < x/\x < 1000000) (m:(i.isEmpty || x == 1)=true) :
  Meets (Builtin.«tuple.__mul__» ⟨[.ref l,.int x u],[]⟩) (fun _ R s=>s.heap.get? l=some { cls:=.type "tuple",dict:=e,data:=.seq i n,slots:=k }/\R (.ok (.ret (Value.ref l))) s):=
 .of_wp fun I w A R s h=>by
  obtain⟨p,g,d,t,os⟩:=s;obtain⟨a,h⟩:=h;have f:=AutoSeq1.idx_int;have b:=AutoSeq1.sub_tuple_tuple
  wp_walk using jW a
  refine HU (by rw [bv (by lia),bv (by lia)];rfl) ?_
  wp_walk using jW a
  exact⟨_,rfl,h⟩
theorem Aw (l:Addr) (i:Array Value) (n:Nat) (c:Option Addr) (q:Array (OV)) (x:Int) (u:Tok) (H:-1000000 < x/\x < 1000000) (f:¬(i.isEmpty || x == 1)=true) (z:i.size * x.toNat≤1000000) :
  Meets (Builtin.«tuple.__mul__» ⟨[.ref l,.int x u],[]⟩) (fun _ R s=>s.heap.get? l=some { cls:=.type "tuple",dict:=c,data:=.seq i n,slots:=q } /\
   R (.ok (.ret (Value.ref s.heap.objs.size))) { s with heap:=s.heap.push { cls:=Value.type "tuple",data:=Data.seq ((List.replicate x.toNat i).foldl (·++·) #[]) } }):=
 .of_wp fun I w A R s h=>by
  obtain⟨S,g,d,K,os⟩:=s;obtain⟨a,h⟩:=h;have y:=AutoSeq1.idx_int;have o:=AutoSeq1.sub_tuple_tuple
  wp_walk using jW a
  refine HU (by rw [bv (by lia),bv (by lia)];rfl) ?_
  wp_walk using jW a
  have k:i.isEmpty=false:=by
   cases e:i.isEmpty with
   | false=>rfl
   | true=>rw [e] at f;simp at f
  by_cases b:x≤0
  .refine K9 (by rw [h_ b];rfl) ?_;have m:x.toNat=0:=by lia
   rw [m] at h
   wp_walk using jW a
   exact⟨_,rfl,h⟩
  .refine HU (by rw [bv b,k];rfl) ?_;have p:(i.size:Int) * x≤1000000:=by
    have:((i.size * x.toNat:Nat):Int)≤1000000:=by lia
    rw [Int.natCast_mul,Int.toNat_of_nonneg (by lia)] at this;exact this
   have r:¬(i.size:Int) * x > (2 ^ 63-1) / 8:=by lia
   dsimp only;rw [if_neg r];have F:(1000000:Int)≤(sizeLine:Int):=by decide
   refine HU (show Builtin.Tuple.tupleTooMany _=false from bv (by lia)) ?_;have t:¬(List.foldl (fun v j=>v++j) #[] (List.replicate x.toNat i)).size > sizeLine:=by
    have e:=sX i x.toNat #[];rw [e];have:x.toNat * i.size≤1000000:=by rw [mE];exact z
    have:(1000000:Nat)≤sizeLine:=by decide
    simp only [List.size_toArray,List.length_nil];lia
   wp_walk using jW a
   exact⟨_,rfl,h⟩
theorem AI (a:Int) (t:Tok) (l:Addr) (i:Array Value) (n:Nat) (x:Option Addr) (e:Array (OV)) :
  Meets (Builtin.«int.__rmul__» ⟨[.int a t,.ref l],[]⟩) (fun _ R s=>s.heap.get? l=some { cls:=.type "tuple",dict:=x,data:=.seq i n,slots:=e }/\R (.ok (.ret Value.notImplemented)) s):=
 .of_wp fun I w A R s h=>by
  obtain⟨p,g,d,f,os⟩:=s;obtain⟨k,h⟩:=h
  wp_walk
  exact⟨_,rfl,h⟩
theorem w1:fillsNumberSlot (.type "tuple") "mul"=pure false:=
 PySem.fillsNumberSlot_seq (id:="tuple.__mul__") (r:=some (.builtin "tuple.__rmul__")) pX.lookup (by decide +kernel) PySem.F.slot_tuple_rmul.lookup (by decide +kernel)
theorem C2:seqRepeat? (.type "tuple")=pure (some (.builtin "tuple.__mul__")):=by unfold seqRepeat?;rw [PySem.seqSlot_of (T:="tuple") (name:="__mul__") (id:="tuple.__mul__") pX.lookup (by decide +kernel)];first | rfl | (rw [PySem.seqSlot_of (T:="tuple") (name:="__rmul__") (id:="tuple.__rmul__") PySem.F.slot_tuple_rmul.lookup (by decide +kernel)];rfl)
section
variable {X:Cx}
theorem uU (i:LV) (k:Nat):(List.replicate k i.toArray).foldl (·++·) #[]=(List.replicate k i).flatten.toArray:=by
 have:∀(m:Nat) (b:LV),(List.replicate m i.toArray).foldl (·++·) b.toArray=(b++(List.replicate m i).flatten).toArray:=by
  intro m;induction m with
  | zero=>intro b;simp
  | succ m x=>intro b;rw [di,gw,List.append_toArray,x,di,gY,List.append_assoc]
 have h:=this k [];rw [gX] at h;exact h
theorem vn (r:aI u v):∀k:Nat,aI (List.replicate k u).flatten (List.replicate k v).flatten
 | 0=>.nil
 | k+1=>by rw [di,di,gY,gY];exact r.append (vn r k)
theorem DH (x:List d) (k:Nat):(List.replicate k x).flatten.length=x.length * k:=by
 induction k with
 | zero=>rfl
 | succ k i=>rw [di,gY,cV,i,Nat.mul_succ];lia
noncomputable def dq:P->P->Option P
 | .tup s,.int n=>if (fS (s.length * n.toNat) && decide (n.natAbs < 1000000))=true then some (.tup (List.replicate n.toNat s).flatten) else none
 | x,y=>rD x y
theorem Du:mx X (binaryOp .Mult) dq:=by
 intro B s N H x y v u Q I L M h;obtain⟨F,z,S,d,V,G,J,q,k⟩:=h;have f:rD z S=some d->wpAny (model X.prog X.w) X.A (binaryOp .Mult v u) (EP X B N Q) X.xe s:=fun q=>F6 B s N H x y v u Q I L M ⟨F,z,S,d,V,G,J,q,k⟩
 cases z with
 | tup j=>
  cases S with
  | int n=>
   simp only [dq] at q;split at q
   .rename_i g;rw [Bool.and_eq_true,zS] at g;have Y:=of_decide_eq_true g.2;cases q;obtain⟨a,D,rfl,O,C⟩:=G;cases (show y=.int n from J);cases L;obtain⟨t,rfl⟩:=M;have K:=C.length;obtain⟨i,r,⟨o,e,c,m,E⟩,Z⟩:=I.tuple O.sq;have l:=r.length;obtain⟨oc,A,ot,os⟩:=o;dsimp only at c E;subst c E;refine wpAny_binaryOp_repeat_ref (T:="tuple") (U:="int") (by decide) ⟨_,e,rfl⟩ (fun W=>typeIs_int W n t) w1 PySem.F.fills_int_mul PySem.F.slot_int_rmul C2 PySem.F.slot_int_index.lookup
     (call_meets PySem.F.slot_int_rmul (typeIs_int s n t) PySem.F.entry_int_rmul (PySem.F.args_int_rmul_2 _ _) (AI n t a i.toArray m A os) ⟨e,rfl,⟨_,e,rfl⟩,?_⟩)
    by_cases p:(i.toArray.isEmpty || n == 1)=true
    .refine call_meets pX ⟨_,e,rfl⟩ PySem.F.entry_tuple_mul (PySem.F.args_tuple_mul_2 _ _) (Ax a i.toArray m A os n t (by lia) p) ⟨e,⟨.ref a,H,I,rfl,k _ F H .refl ?_⟩⟩;have R:(List.replicate n.toNat j).flatten=j:=by
      rw [iX] at p;rcases p with p | p
      .have:i=[]:=by simpa using p
       have:j=[]:=i3 (by rw [K,l,this];rfl);subst this;simp
      .have:n=1:=by simpa using p
       subst this;simp
     rw [R];exact⟨a,D,rfl,O,C⟩
    .refine call_meets pX ⟨_,e,rfl⟩ PySem.F.entry_tuple_mul (PySem.F.args_tuple_mul_2 _ _) (Aw a i.toArray m A os n t (by lia) p (by rw [List.size_toArray,<- l,<- K];exact g.1)) ⟨e,?_⟩;rw [uU];have w:H s.heap.objs.size=none:=I.hok.fresh (Nat.le_refl _);have P:(List.replicate n.toNat D).flatten.length≤sizeLine:=by
      rw [DH,<- K];exact aQ g.1 (by decide)
     refine⟨.ref s.heap.objs.size,_,I.laid (t':=s.toks) (o:=.tup (List.replicate n.toNat D).flatten) (fun b ob q=>Heap.get?_push_of_some _ q) (Nat.le_refl _) ⟨P,_,vn r n.toNat,lK.new _ _⟩,rfl,k _ F _ (b0 w) (.newTup w (C.rep n.toNat))⟩
   .cases q
  | _=>exact f q
 | _=>exact f q
noncomputable def lI:List P->Option P
 | [.lst x]=>some (.lst x)
 | [.ro x]=>some (.lst x)
 | [.tup x]=>some (.lst x)
 | _=>none
noncomputable def d5:List P->Option P
 | [.lst x]=>some (.tup x)
 | [.ro x]=>some (.tup x)
 | [.tup x]=>some (.tup x)
 | _=>none
theorem zX:cJ X (.type "list") (rC X.K lI):=by
  intro B s N H m u Q I r h;obtain⟨F,b,d,c,f,q,k⟩:=h;unfold lI at q;split at q;all_goals first
    | (cases q;done)
    | (cases q
       obtain⟨x,rfl,p⟩:=qq f;obtain⟨a,y,rfl,t,n⟩:=p;first
         | exact kH B s N H _ u Q I r ⟨a,y,rfl,.inl t.sq,fun l e=>k _ _ _ (bP e) (.newLst e n)⟩
         | exact kH B s N H _ u Q I r ⟨a,y,rfl,.inr t.sq,fun l e=>k _ _ _ (bP e) (.newLst e n)⟩)
theorem xF:cJ X (.type "tuple") (rC X.K d5):=by
  intro B s N H m u Q I r h;obtain⟨F,b,d,c,f,q,k⟩:=h;unfold d5 at q;split at q;all_goals first
    | (cases q;done)
    | (cases q
       obtain⟨x,rfl,p⟩:=qq f;obtain⟨a,y,rfl,t,n⟩:=p;first
         | exact jN B s N H _ u Q I r ⟨a,y,rfl,.inl ⟨t.sq,fun l e=>k _ F _ (b0 e) (.newTup e n)⟩⟩
         | exact jN B s N H _ u Q I r ⟨a,y,rfl,.inr ⟨t.sq,k _ F H .refl ⟨a,y,rfl,t,n⟩⟩⟩)
noncomputable def lY:List P->Option P
 | [.int i]=>some (.int (if i < 0 then -i else i))
 | _=>none
theorem BI:cJ X (.builtin "abs") (rC X.K lY):=by
 intro B s N H n u Q I r h;obtain⟨F,e,d,f,a,q,k⟩:=h;unfold lY at q;split at q
 .cases q;obtain⟨x,rfl,p⟩:=qq a;exact zW B s N H _ u Q I r ⟨_,by rw [show x=_ from p],k _ F H .refl rfl⟩
 .cases q
variable {e:Expr}{es:Ab}{fs:fN}{p J:Pos}
theorem Cp (g:Gl X "list") (m:X.mg "list"=none) (a:PA X (e::es) (nc X.K fs)) (x:starEach (e::es) X.env=(false,eval e X.env)::starEach es X.env) (h:(backTo J (starEach es X.env)).any (·.1)=false) :
  PE X (.Call (.Name "list" p) (e::es) [] J) (tV X.K (ah lI fs)):=ul zX g m PyProof.Rows.boot_list a (by decide) (by decide) x h
theorem Al (g:Gl X "tuple") (m:X.mg "tuple"=none) (a:PA X (e::es) (nc X.K fs)) (x:starEach (e::es) X.env=(false,eval e X.env)::starEach es X.env) (h:(backTo J (starEach es X.env)).any (·.1)=false) :
  PE X (.Call (.Name "tuple" p) (e::es) [] J) (tV X.K (ah d5 fs)):=ul xF g m PyProof.Rows.boot_tuple a (by decide) (by decide) x h
theorem E3 (g:Gl X "abs") (m:X.mg "abs"=none) (a:PA X (e::es) (nc X.K fs)) (x:starEach (e::es) X.env=(false,eval e X.env)::starEach es X.env) (h:(backTo J (starEach es X.env)).any (·.1)=false) :
  PE X (.Call (.Name "abs" p) (e::es) [] J) (tV X.K (ah lY fs)):=um BI g m PyProof.Rows.boot_abs a (by decide) (by decide) x h
noncomputable def dn (r:EE) (a:EV):EE:=fun L S=>aH (r L S) fun d h=>match dt d h with
 | none=>none
 | some _=>aH (a L h) fun x e=>match dt d e,x with
  | some (i,s),.lst y=>if fS (s.length+y.length)=true then some (.p .non,e.set i (.lst (s++y.map .p))) else none
  | _,_=>none
end
section
variable {X:Cx}{o e:Expr}{T z:EE}{C:EV}{j t J:Pos}
theorem Ap (ho:PE X o (tE X.K T)) (he:PE X e (tV X.K C)) (E:starEach [e] X.env=[(false,eval e X.env)])
  (n:attributeBase o "extend" X.env (eval o X.env)=eval o X.env) (f:(j.endLine == t.line)=true):PE X (.Call (.Attribute o "extend" j) [e] [] t) (tE X.K (dn T C)):=
 (B3 uh PySem.F.slot_list_extend PySem.F.type_list_extend w5 ho (dJ he gA (by rw [E];rfl)) n (by rw [E];rfl) f (by rw [E];rfl) rfl).imp' fun N H Q hz=>by
  obtain⟨F,m,L,S,d,S',r,l,q,k⟩:=hz;obtain⟨x,B,e1,q⟩:=af q;refine⟨F,m,L,S,x,B,r,l,e1,fun v Y m1 H1 V R O=>?_⟩;cases D:dt x B with
  | none=>rw [D] at q;cases q
  | some z=>
   obtain⟨i,ds⟩:=z;rw [D] at q;dsimp only at q;obtain⟨rfl,es⟩:=kr D;obtain⟨a,rfl,hm⟩:=id O;obtain⟨xs,hH,rs⟩:=R.obj i a _ hm es;refine⟨.inl ⟨rfl,xs,gL.of hH⟩,?_⟩;obtain⟨y,J,e2,q⟩:=af q;refine⟨Y,m1,L,B,y,J,R,l.mono V,e2,fun u P G A W I p2=>?_⟩;cases h:dt (.ref i) J with
   | none=>rw [h] at q;cases q
   | some z=>
    obtain⟨i2,Z⟩:=z;rw [h] at q;obtain⟨e3,s⟩:=kr h;cases e3;cases y with
    | lst ys=>
     dsimp only at q;split at q
     .rename_i hf;cases q;obtain⟨a2,e4,c⟩:=RD.mono W O;cases e4;obtain⟨g,p,w⟩:=I.obj i a _ c s;obtain⟨b,K,rfl,tb,U⟩:=p2;have M:∀K,A a≠some (.tup K):=fun K z=>by rw [p] at z;cases z
      have st:Stp P G A P G (cf A a (.lst (g++K))):=fy I c s trivial M;refine⟨a,b,g,K,rfl,rfl,p,tb.2,by rw [<- w.length,<- U.length];exact gh hf,?_⟩;exact k .non P G _ (V.trans (W.trans st)) (I.set c s trivial M ⟨_,aK,dc.mono st (w.append (dc.ofP U))⟩) rfl
     .cases q
    | _=>cases q
noncomputable abbrev oa:=Lc->aF->Option (List D×aF)
inductive tDsI (K:FG) (f:oa) (σ:L2.St) (H:Hp) (Q:List V->Hp->Prop):Prop
 | mk (F:Aa) (m:List Addr) (L:Lc) (S:aF) (ds:List D) (S':aF) (h0_:Rel K F H m S) (h1_:RL K F H m σ L) (h2_:f L S=some (ds,S')) (h3_:∀xs F' m' H',Stp F m H F' m' H'->Rel K F' H' m' S'->dc K F' H' m' ds xs->Q xs H'):tDsI K f σ H Q
noncomputable def wL (K:FG) (f:oa):TA:=fun N H Q=>tDsI K f N H Q
noncomputable def aY:oa:=fun _ S=>some ([],S)
noncomputable def ab (a:EE) (r:oa):oa:=fun L S=>aH (a L S) fun x h=>aH (r L h) fun s e=>some (x::s,e)
variable {es:Ab}{fs:oa}
theorem G3:PA X [] (wL X.K aY):=gA.imp' fun N H Q h=>by obtain⟨F,m,L,S,d,x,r,l,q,k⟩:=h;cases q;exact k [] F m H .refl r rfl
theorem D_ (w:PE X e (tE X.K z)) (u:PA X es (wL X.K fs)) (g:starEach (e::es) X.env=(false,eval e X.env)::starEach es X.env):PA X (e::es) (wL X.K (ab z fs)):=
 (dJ w u g).imp' fun N H Q i=>by obtain⟨F,m,L,S,d,c,r,l,q,k⟩:=i;obtain⟨x,h,t,q⟩:=af q;obtain⟨B,D,p,q⟩:=af q;cases q;refine⟨F,m,L,S,x,h,r,l,t,fun v n j C s P o=>?_⟩;refine⟨n,j,L,h,B,c,P,l.mono s,p,fun O f y b a A K=>?_⟩;exact k (v::O) f y b (s.trans a) A ⟨v,O,rfl,RD.mono a o,K⟩
noncomputable abbrev GF:=List D->aF->Option (D×aF)
inductive spRI (K:FG) (g:GF) (vs:List V) (H:Hp) (Q:VK):Prop
 | mk (F:Aa) (m:List Addr) (ds:List D) (S:aF) (d:D) (S':aF) (h0_:Rel K F H m S) (h1_:dc K F H m ds vs) (h2_:g ds S=some (d,S')) (h3_:∀v F' m' H',Stp F m H F' m' H'->Rel K F' H' m' S'->RD K F' H' m' d v->Q v H'):spRI K g vs H Q
noncomputable def oj (K:FG) (g:GF):Sp:=fun O H Q _=>spRI K g O H Q
noncomputable def fR (g:GF) (a:oa):EE:=fun L S=>aH (a L S) fun d h=>g d h
theorem Cz (G:FnOk X.prog X.w X.K X.mg X.base pG u f fd ps (oj X.K a0)) (A:Room u X.A) (o:Gl X x) (P:X.mg x=some (.ref f)) (K:PySem.W.keepIn X.K (.ref f)=true) (y:Binds X.K fd ps [])
  (j:PA X (e::es) (wL X.K fs)) (h:(x == ("__debug__":Str))=false) (z:starEach (e::es) X.env=(false,eval e X.env)::starEach es X.env) (a:(backTo J (starEach es X.env)).any (·.1)=false) :
  PE X (.Call (.Name x p) (e::es) [] J) (tE X.K (fR a0 fs)):=
 (qu G A o P K y .nil o5 j h z a).imp' fun N H Q B=>by obtain⟨F,m,L,S,d,g,r,l,q,u⟩:=B;obtain⟨k,n,i,q⟩:=af q;refine⟨F,m,L,S,k,n,r,l,i,fun R b C t s I p=>?_⟩;show oj X.K a0 (R++[]) t Q E0;rw [List.append_nil];exact⟨b,C,k,n,d,g,I,p,q,fun v c D w O M E=>u v c D w (s.trans O) M E⟩
noncomputable def w8 (n:Nat):D->Bool
 | .p _=>true
 | .ref i=>decide (i < n)
noncomputable def DF (n:Nat):SO->Bool
 | .lst d=>d.all (w8 n)
 | .dct _ d=>d.all (w8 n)
 | .fz _=>true
 | .ins _ _ d=>d.all (w8 n)
 | .exc _=>true
 | .dtt _ d=>d.all (w8 n)
noncomputable def trunc (n:Nat) (S:aF):aF:=if (S.take n).all (DF n)=true then S.take n else S
noncomputable def b7 (g:GF) (a:oa):EV:=fun L S=>aH (a L S) fun s h=>aH (g s h) fun d x=>aH (toP 9 d x) fun v e=>some (v,trunc h.length e)
end
section
variable {K:FG}{F:Aa}{H:Hp}{m:List Addr}{S:aF}
theorem RD.low (h:RD K F H m r v) (l:w8 n r=true):RD K F H (m.take n) r v:=by
 cases r with
 | p w=>exact h
 | ref i=>obtain⟨a,e,x⟩:=h;exact⟨a,e,by rw [ii (of_decide_eq_true l)];exact x⟩
theorem dc.low:∀{s:List D}{a:List V},dc K F H m s a->s.all (w8 n)=true->dc K F H (m.take n) s a
 | [],_,h,_=>h
 | d::s,_,h,l=>by obtain⟨x,r,e,k,f⟩:=h;rw [dw,Bool.and_eq_true] at l;exact⟨x,r,e,k.low l.1,dc.low f l.2⟩
theorem Rel.trunc (r:Rel K F H m S) (y:n≤m.length) (h:(S.take n).all (DF n)=true):Rel K F H (m.take n) (S.take n) where
 len:=by rw [ib,ib,r.len]
 nd:=r.nd.sublist (List.take_sublist _ _)
 obj:=fun i a o x t=>by
  have q:i < n:=by have:=(List.getElem?_eq_some_iff.mp x).1;rw [ib] at this;lia
  rw [ii q] at x;have lo:=bq.mp h o (bY t);rw [ii q] at t;have p:=r.obj i a o x t;cases o with
  | lst d=>obtain⟨l,s,b⟩:=p;exact⟨l,s,b.low lo⟩
  | dct u d=>obtain⟨k,s,e,b⟩:=p;exact⟨k,s,e,b.low lo⟩
  | fz v=>exact p
  | ins c u d=>obtain⟨C,g,k,j,s,e,b⟩:=p;exact⟨C,g,k,j,s,e,b.low lo⟩
  | exc c=>exact p
  | dtt u d=>obtain⟨k,s,e,b⟩:=p;exact⟨k,s,e,b.low lo⟩
 sep:=fun i a o x t w f=>by
  have q:i < n:=by have:=(List.getElem?_eq_some_iff.mp x).1;rw [ib] at this;lia
  rw [ii q] at x t;exact r.sep i a o x t w f
 trk:=fun a h=>r.trk a (pU h)
 ft:=r.ft
theorem Stp.trunc (s:Stp F m H v r u):Stp F m H v (r.take m.length) u:=by
 obtain⟨n,e⟩:=s.pre;have x:r.take m.length=m:=by rw [e];simp
 rw [x];exact⟨⟨[],by simp⟩,s.oth,s.frz,s.frk,s.tup,s.trk,s.nf,fun _ h=>.inl h⟩
end
section
variable {X:Cx}{e:Expr}{es:Ab}{fs:oa}{J:Pos}
theorem An (G:FnOk X.prog X.w X.K X.mg X.base pG u f fd ps (oj X.K a0)) (Z:Room u X.A) (V:Gl X x) (Y:X.mg x=some (.ref f)) (W:PySem.W.keepIn X.K (.ref f)=true) (T:Binds X.K fd ps [])
  (R:PA X (e::es) (wL X.K fs)) (b:(x == ("__debug__":Str))=false) (U:starEach (e::es) X.env=(false,eval e X.env)::starEach es X.env) (w:(backTo J (starEach es X.env)).any (·.1)=false) :
  PE X (.Call (.Name x p) (e::es) [] J) (tV X.K (b7 a0 fs)):=
 (qu G Z V Y W T .nil o5 R b U w).imp' fun N H Q hz=>by
  obtain⟨F,m,L,S,d,S',r,l,q,u⟩:=hz;obtain⟨z,h,I,q⟩:=af q;obtain⟨E,D,M,q⟩:=af q;obtain⟨v1,a,O,q⟩:=af q;cases q;refine⟨F,m,L,S,z,h,r,l,I,fun xs B g C A K p1=>?_⟩;show oj X.K a0 (xs++[]) C Q E0;rw [List.append_nil];refine⟨B,g,z,h,E,D,K,p1,M,fun v F2 i y s2 r2 p2=>?_⟩;obtain⟨j,s3,P,l3,o⟩:=na 9 O r2 p2;have st:=s2.trans s3;have s:=K.len;by_cases c:(a.take h.length).all (DF h.length)=true
  .have t:Ev.trunc h.length a=a.take h.length:=if_pos c;rw [t] at u;have k:g.length≤i.length:=by
    obtain⟨nn,e⟩:=st.pre;rw [e,cV];lia
   have rt:=P.trunc (n:=h.length) (by rw [<- s];exact k) c;refine u v j (i.take g.length) y (A.trans st.trunc) ?_ o;rw [s];exact rt
  .have t:Ev.trunc h.length a=a:=if_neg c;rw [t] at u;exact u v j i y (A.trans st) P o
end
section
variable {X:Cx}{a b c e o i g:Expr}{C U q k Y:EV}{T z:EE}{J G:Pos}
noncomputable def n_ (i:Expr):Prop:=∀(o:Expr) (J:Pos) (e:Env) (v:Value),assign (.Subscript o i J) e v=(do
 let h <- holding [v] (eval o e)
 let x <- holding [v,h] (eval i e)
 standAt J
 holding [v,h,x] (setItem h x v)
 release [v,h,x] [])
noncomputable def oY (o:EE) (k v:EV):ES:=fun L S=>aH (v L S) fun y x=>aH (o L x) fun d a=>aH (k L a) fun z h=>match dt d h,z with
 | some (i,s),.int n=>match xc s.length n with
  | some j=>some (.nx,L,h.set i (.lst (s.set j (.p y))))
  | none=>none
 | _,_=>none
theorem dc.setAt {K:FG}{F:Aa}{H:Hp}{m:List Addr}{d:D}{v:V} (h:RD K F H m d v):∀{s:List D}{e:List V} (j:Nat),dc K F H m s e->dc K F H m (s.set j d) (e.set j v)
 | [],_,_,r=>by cases (show _=([]:List V) from r);exact rfl
 | _::_,_,0,r=>by obtain⟨x,a,rfl,p,r⟩:=r;exact⟨v,a,rfl,h,r⟩
 | _::_,_,j+1,r=>by obtain⟨x,a,rfl,p,r⟩:=r;exact⟨x,_,rfl,p,dc.setAt h j r⟩
theorem EQ (ho:PE X o (tE X.K T)) (hi:PE X i (tV X.K k)) (hv:PE X g (tV X.K Y)) (hs:swapsWith g (some (.Subscript o i G)) J.line X.env=pure false) (hw:swappedStores [.Subscript o i G] g X.env=pure none) (P:n_ i) :
  PS X (.Assign [.Subscript o i G] g J) (kc X.K (oY T k Y)):=(yp hv (De ho hi ya (P o G X.env)) hs hw).imp' fun D N H hz=>by
 obtain⟨F,m,L,S,fl,L',S',r,l,q,h⟩:=hz;obtain⟨y,I,e1,q⟩:=af q;obtain⟨d,M,e2,q⟩:=af q;obtain⟨z,O,e3,q⟩:=af q;refine⟨F,m,L,S,y,I,r,l,e1,fun v E R H1 b r1 p1=>?_⟩;refine⟨E,R,L,I,d,M,r1,l.mono b,e2,fun x F2 m2 H2 c r2 p2=>?_⟩;refine⟨F2,m2,L,M,z,O,r2,(l.mono b).mono c,e3,fun w e f s p C p3=>?_⟩;cases K:dt d O with
 | none=>rw [K] at q;cases q
 | some t=>
  obtain⟨j,ds⟩:=t;rw [K] at q;cases z with
  | int n=>
   dsimp only at q;cases u:xc ds.length n with
   | none=>rw [u] at q;cases q
   | some B=>
    rw [u] at q;cases q;obtain⟨rfl,es⟩:=kr K;obtain⟨a,rfl,A⟩:=RD.mono p p2;obtain⟨W,Q,V⟩:=C.obj j a _ A es;have pv:RD X.K e s f (.p y) v:=RD.mono p (RD.mono c (show RD X.K E H1 R (.p y) v from p1));cases (show w=.int n from p3);have U:∀Z,s a≠some (.tup Z):=fun Z z=>by rw [Q] at z;cases z
    have st:Stp e f s e f (cf s a (.lst (W.set B v))):=fy C A es trivial U;refine⟨a,W,n,B,rfl,rfl,Q,by rw [<- V.length];exact u,?_⟩;exact h N e f _ (b.trans (c.trans (p.trans st))) (C.set A es trivial U ⟨_,aK,dc.mono st (dc.setAt pv B V)⟩) (((l.mono b).mono c).mono (p.trans st))
  | _=>cases q
noncomputable def eY (o:EE) (k v:EV):ES:=fun L S=>match on o k v L S with
 | some r=>some r
 | none=>oY o k v L S
theorem ER (u:X.A.units+1 < cLine) (p:PE X o (tE X.K T)) (t:PE X i (tV X.K k)) (d:PE X g (tV X.K Y)) (v:swapsWith g (some (.Subscript o i G)) J.line X.env=pure false) (hw:swappedStores [.Subscript o i G] g X.env=pure none) (b:n_ i) :
  PS X (.Assign [.Subscript o i G] g J) (kc X.K (eY T k Y)):=fun B s N H D I h=>by
 obtain⟨F,m,L,S,f,a,e,r,l,q,x⟩:=h;cases n:on T k Y L S with
 | some z=>
  have c:some z=some (f,a,e):=by have:=q;unfold eY at this;rw [n] at this;exact this
  cases c;exact Iv u p t d v B s N H D I ⟨F,m,L,S,f,a,e,r,l,n,x⟩
 | none=>
  have c:oY T k Y L S=some (f,a,e):=by have:=q;unfold eY at this;rw [n] at this;exact this
  exact EQ p t d v hw b B s N H D I ⟨F,m,L,S,f,a,e,r,l,c,x⟩
noncomputable def lh (g n:P->P->Option P) (a b c:EV):EV:=fun L S=>aH (a L S) fun x e=>aH (b L e) fun y h=>match g x y with
 | some (.bl true)=>aH (c L h) fun z s=>(n y z).map fun v=>(v,s)
 | some (.bl false)=>some (.bl false,h)
 | _=>none
theorem tW {g b:P->P->Option P}{N:L2.St}{H:Hp}{Q:VK} (h:tV X.K (lh g b C U q) N H Q):uu (rP X.K g) (rP X.K b) (tV X.K C) (tV X.K U) (tV X.K q) N H Q:=by
 obtain⟨F,m,L,S,d,S',r,l,a,k⟩:=h;obtain⟨x,j,W,a⟩:=af a;obtain⟨y,o,Y,a⟩:=af a;refine⟨F,m,L,S,x,j,r,l,W,fun v J m1 H1 E r1 p1=>?_⟩;refine⟨J,m1,L,j,y,o,r1,l.mono E,Y,fun u M p H2 G A K=>?_⟩;cases f:g x y with
 | none=>rw [f] at a;cases a
 | some z=>
  rw [f] at a;cases z with
  | bl t=>
   refine⟨M,x,y,_,A.ft,RP.mono G p1,K,f,fun w n i c p3=>⟨t,p3,?_⟩⟩;have oh:Stp F m H n p i:=E.trans (G.trans c.stp);have B:=A.grow c;cases t with
   | false=>rw [if_neg bO];cases a;exact k _ n p i oh B rfl
   | true=>
    rw [if_pos rfl];dsimp only at a;obtain⟨z,V,Z,a⟩:=af a;refine⟨n,p,L,o,z,V,B,l.mono oh,Z,fun w' O m4 H4 I D p4=>?_⟩;cases e:b y z with
    | none=>rw [e] at a;cases a
    | some z2=>rw [e] at a;cases a;exact⟨O,y,z,_,D.ft,RP.mono I (RP.grow c K),p4,e,fun w2 R T s p5=>k w2 R m4 T (oh.trans (I.trans s.stp)) (D.grow s) p5⟩
  | _=>cases a
theorem Cy (n:mx X (compareOp u) r) (o:mx X (compareOp v) L) (x:PE X a (tV X.K C)) (e:PE X b (tV X.K U)) (s:PE X c (tV X.K q)) (m:lastMarks [u,v] [b,c]=false) :
  PE X (.Compare a [u,v] [b,c] J) (tV X.K (lh r L C U q)):=(yG n o x e s m).imp' fun _ _ _ h=>tW h
theorem Co (y:mx X (compareOp op) u) (o:mx X (compareOp op') g') (w:PE X a (tV X.K C)) (g:PE X b (tV X.K U)) (i:PE X c (tV X.K q)) (j:lastMarks [op,op'] [b,c]=false) :
  PT X (.Compare a [op,op'] [b,c] J) (tQ X.K (bV (lh u g' C U q))):=(ym y o w g i j).imp' fun N H Q h=>by
 refine tW ?_;obtain⟨F,m,L,S,d,P,r,l,e,k⟩:=h;obtain⟨x,A,t,e⟩:=af e;cases x with
 | bl b=>cases e;exact⟨F,m,L,S,_,_,r,l,t,fun v n z f s K p=>⟨_,p,k n z f s K⟩⟩
 | _=>cases e
noncomputable def ur:P->Option Bool
 | .non=>some false
 | .bl b=>some b
 | .int i=>some (i != 0)
 | .str x=>if fS x.length=true then some ((x.length:Int) != 0) else none
 | .tup s=>some (!s.isEmpty)
 | .lst s=>some (!s.isEmpty)
 | .ro s=>some (!s.isEmpty)
 | .dct k _=>some (!k.isEmpty)
noncomputable def xX:D->aF->Option Bool
 | .p v,_=>ur v
 | .ref i,S=>match S[i]? with
  | some (.lst d)=>some (!d.isEmpty)
  | some (.dct k _)=>some (!k.isEmpty)
  | some (.fz v)=>ur v
  | _=>none
noncomputable def bT (f:EE):EB:=fun L S=>aH (f L S) fun d h=>(xX d h).map fun b=>(b,h)
theorem gP {x:List d}{y:List l} (h:x.length=y.length):x.isEmpty=y.isEmpty:=by cases x <;> cases y <;> first | rfl | simp at h
theorem vx (p:RP X.K F H w v) (h:ur w=some r):El X.K v H r:=by
 cases w with
 | non=>cases (show v=.non from p);cases h;rfl
 | bl b=>cases (show v=.bl b from p);cases h;rfl
 | int b=>cases (show v=.int b from p);cases h;rfl
 | str x=>
  cases (show v=.str x from p);simp only [ur] at h;split at h
  .rename_i c;cases h;exact⟨gh c,rfl⟩
  .cases h
 | tup d=>obtain⟨a,s,rfl,t,e⟩:=p;cases h;exact .inr (.inl ⟨s,t.sq,by rw [gP e.length]⟩)
 | lst d=>obtain⟨a,s,rfl,t,e⟩:=p;cases h;exact .inl ⟨s,t.sq,by rw [gP e.length]⟩
 | ro d=>obtain⟨a,s,rfl,t,e⟩:=p;cases h;exact .inl ⟨s,t.sq,by rw [gP e.length]⟩
 | dct m d=>obtain⟨a,k,rfl,_,f,n,e⟩:=p;cases h;exact .inr (.inr ⟨k,f,by rw [<- n];cases k <;> rfl⟩)
theorem yT (h:PE X e (tE X.K z)) (D:∀o,isTrue e X.env o=(do let v <- o;standAt e.pos;holding [v] (truthy v))):PT X e (tQ X.K (bT z)):=
 (yk h D).imp' fun N H Q E=>by
  obtain⟨F,m,L,S,d,M,r,l,q,k⟩:=E;obtain⟨x,P,B,q⟩:=af q;cases s:xX x P with
  | none=>rw [s] at q;cases q
  | some t=>
   rw [s] at q;cases q;refine⟨F,m,L,S,x,_,r,l,B,fun v y G K I b g=>⟨_,?_,k y G K I b⟩⟩;cases x with
   | p w=>exact vx g s
   | ref j=>
    obtain⟨a,rfl,u⟩:=g;simp only [xX] at s;split at s
    .rename_i A n;cases s;obtain⟨J,c,i⟩:=b.obj j a _ u n;exact .inl ⟨J,gL.of c,by rw [gP i.length]⟩
    .rename_i O A n;cases s;obtain⟨f,c,C,i⟩:=b.obj j a _ u n;exact .inr (.inr ⟨f,c,by rw [<- C];cases f <;> rfl⟩)
    .rename_i w n;exact vx (b.obj j a _ u n) s
    .cases s
noncomputable def ni (g:iK) (f:EV):ES:=fun L S=>aH (f L S) fun v x=>match g v L with
 | some h=>some (.nx,h,x)
 | none=>none
theorem Ir (p:PE X e (tV X.K C)) (d:PG X tg (gT X.K u)) (w:swapsWithSole [tg] e J.line X.env=pure false) (hw:swappedStores [tg] e X.env=pure none) (t:(assignEach [tg] X.env).map (·.2)=[assign tg X.env]) :
  PS X (.Assign [tg] e J) (kc X.K (ni u C)):=(yp p d w hw t).imp' fun D N H z=>by
 obtain⟨F,m,L,S,P,o,K,r,l,q,k⟩:=z;obtain⟨v,b,c,q⟩:=af q;refine⟨F,m,L,S,v,b,r,l,c,fun x a s f n y j=>?_⟩;cases g:u v L with
 | none=>rw [g] at q;cases q
 | some L2=>rw [g] at q;cases q;exact⟨a,s,L,v,_,l.mono n,j,g,fun h i=>k h a s f n y i⟩
noncomputable def Bl (a b:EV):fN:=fun L S=>aH (a L S) fun x e=>aH (b L e) fun y s=>match x,y with
 | .int lo,.int h=>if (decide (lo.natAbs < 1000000) && decide (h.natAbs < 1000000))=true then some (intsFrom lo (h-lo).toNat,s) else none
 | _,_=>none
theorem K_ (j:Gl X "range") (z:X.mg "range"=none) (u:PE X a (tV X.K C)) (g:PE X b (tV X.K U)) (s:starEach [a,b] X.env=[(false,eval a X.env),(false,eval b X.env)]) (h:starEach [b] X.env=[(false,eval b X.env)]) :
  PI X tg (.Call (.Name "range" p) [a,b] [] J) (tI X.K (Bl C U)):=
 (wV j z (dJ u (dJ g gA (by rw [h];rfl)) (by rw [s,h])) s h).imp' fun N H R o=>by
  obtain⟨F,m,L,S,O,M,r,l,q,k⟩:=o;obtain⟨x,v,d,q⟩:=af q;obtain⟨y,Q,w,q⟩:=af q;cases x with
  | int lo=>
   cases y with
   | int i=>
    dsimp only at q;split at q
    .rename_i c;rw [Bool.and_eq_true] at c;have T:=of_decide_eq_true c.1;have V:=of_decide_eq_true c.2;cases q;refine⟨F,m,L,S,_,_,r,l,d,fun x n K I e D A=>⟨n,K,L,v,_,_,D,l.mono e,w,fun y f P t G E B=>?_⟩⟩;cases (show x=.int lo from A);cases (show y=.int i from B);exact⟨lo,i,rfl,⟨by lia,by lia,by lia,by lia⟩,k _ f P t (e.trans G) E y9⟩
    .cases q
   | _=>cases q
  | _=>cases q
noncomputable def aC:P->P->Option P
 | .tup [],.tup s=>some (.tup s)
 | x,y=>rF x y
theorem Ee {M:Program}{w:World}{A:Around}{E:VP}{s:Shared}{t b:Addr}{a:LV}{Q:VP} (n:IsTup s.heap t #[]) (e:IsTup s.heap b a.toArray) (h:Q (.ref b) s):wpAny (model M w) A (binaryOp .Add (.ref t) (.ref b)) Q E s:=by obtain⟨o,g,k,m,l⟩:=id n;obtain⟨p,x,f,r,c⟩:=id e;cases o;cases p;cases k;cases l;cases f;cases c;exact concat_meets ⟨_,g,rfl⟩ ⟨_,x,rfl⟩ noFill_tuple_add seq_tuple_add ub uf (ui _ _) (tuple_addW0 t b #[] a.toArray m r _ _ _ _ rfl) ⟨g,x,h⟩
theorem Dv:mx X (binaryOp .Add) aC:=by
 intro B s N H x y v u Q I r m h;obtain⟨F,e,n,d,t,c,p,q,k⟩:=h;have o:rF e n=some d->wpAny (model X.prog X.w) X.A (binaryOp .Add v u) (EP X B N Q) X.xe s:=fun q=>Gd B s N H x y v u Q I r m ⟨F,e,n,d,t,c,p,q,k⟩
 cases e with
 | tup f=>
  cases n with
  | tup es=>
   cases f with
   | nil=>cases q;obtain⟨a,P,rfl,S,z⟩:=c;obtain⟨b,D,rfl,K,C⟩:=id p;cases (show P=[] from z);cases r;cases m;obtain⟨w,l,g,_⟩:=I.tuple S.sq;obtain⟨i,A,j,_⟩:=I.tuple K.sq;cases l;exact Ee g j ⟨.ref b,H,I,rfl,k _ F H .refl p⟩
   | cons _ _=>exact o q
  | _=>cases f <;> exact o q
 | _=>exact o q
noncomputable def vh (K:FG) (m:SV) (x:Str) (v:P):Prop:=∃u w,m x=some u/\RelV w u/\∀F H,RP K F H v w
theorem E6 (g:Gl X x) (h:vh X.K X.mg x v) (hd:(x == ("__debug__":Str))=false):PE X (.Name x J) (tV X.K (vC v)):=by obtain⟨u,w,m,r,p⟩:=h;exact xC (A1 g m r hd) p
end
section
variable {X:Cx}{a:Expr}{C:EE}{p J:Pos}
noncomputable def xf (T:String):D->aF->Option Bool
 | .p v,_=>some (jE T v)
 | .ref i,S=>match S[i]? with
  | some (.lst _)=>some (jE T (.lst []))
  | some (.dct _ _)=>some (jE T (.dct [] []))
  | some (.fz v)=>some (jE T v)
  | _=>none
noncomputable def xU (T:String) (f:EE):EV:=fun L S=>aH (f L S) fun d h=>(xf T d h).map fun b=>(.bl b,h)
theorem xE (T:∀K:FG,∀v:P,PySem.W.kitOne K (.type (CH v)) (.type L)=some (jE L v)) :
  cJ X (.builtin "isinstance") (fun y H Q=>∃F m S d b x,y=[x,.ty L]/\Rel X.K F H m S/\RD X.K F H m d x/\xf L d S=some b/\Q (.bl b) H):=by
 intro B s N H y U Q I r h;obtain⟨F,m,S,d,b,x,rfl,l,pd,i,q⟩:=h;have plain:∀w:P,RP X.K F H w x->jE L w=b->wpAny (model X.prog X.w) X.A _ _ _ _:=fun w hw e=>zT T B s N H [x,.ty L] U Q I r ⟨F,w,x,rfl,hw,by rw [e];exact q⟩
 cases d with
 | p w=>cases i;exact plain w pd rfl
 | ref j=>
  obtain⟨a,rfl,t⟩:=pd;simp only [xf] at i;obtain⟨u,V,rfl,A,g⟩:=vals2 r;cases (show V=Value.type L from g);have f:∀C,EP X B N Q (.bool b) { s with toks:=C }:=fun C=>⟨.bl b,H,I.tok _,rfl,q⟩;split at i
  .rename_i D k;obtain⟨y,c,R⟩:=l.obj j a _ t k;have e:=T X.K (.lst []);rw [show jE L (.lst [])=b by cases i;rfl] at e;cases A;obtain⟨J,_,O,_⟩:=I.list (gL.of c);obtain⟨o,n,E,G,_⟩:=O;exact ei mU I.kIn ⟨o,E,G⟩ e (fun z=>nomatch z) f
  .rename_i Y D k;obtain⟨M,c,W,R⟩:=l.obj j a _ t k;have e:=T X.K (.dct [] []);rw [show jE L (.dct [] [])=b by cases i;rfl] at e;exact gm I A (.dK c) e f
  .rename_i w k;exact plain w (l.obj j a _ t k) (by cases i;rfl)
  .cases i
theorem IB (T:∀K:FG,∀v:P,PySem.W.kitOne K (.type (CH v)) (.type u)=some (jE u v)) (o:Gl X "isinstance") (A:X.mg "isinstance"=none) (h:Gl X tn) (n:X.mg tn=none) (z:bootBuiltins tn=some (.type u)) (y:PE X a (tE X.K C))
  (B:tn≠"__name__") (hd:(tn == ("__debug__":Str))=false) (c:starEach [a,.Name tn p2] X.env=[(false,eval a X.env),(false,eval (.Name tn p2) X.env)]):PE X (.Call (.Name "isinstance" p) [a,.Name tn p2] [] J) (tV X.K (xU u C)):=
 (kn (xE T) o A PyProof.Rows.boot_isinstance (dJ y (dJ (A2 (v:=.ty u) h n z rfl B hd) gA rfl) (by rw [c];rfl)) (by decide) (by decide) (by rw [c];rfl) rfl).imp' fun N H Q D=>by
  obtain⟨F,m,L,S,d,G,r,l,q,k⟩:=D;obtain⟨x,i,j,q⟩:=af q;cases e:xf u x i with
  | none=>rw [e] at q;cases q
  | some b=>rw [e] at q;cases q;exact⟨F,m,L,S,_,_,r,l,j,fun v f t g s w E=>⟨f,t,_,x,b,v,rfl,w,E,e,k _ f t g s w rfl⟩⟩
end
noncomputable def gE (f:Str):LS->List D->Option D
 | k::h,d::s=>if k=f then some d else gE f h s
 | _,_=>none
noncomputable def putK (f:Str):LS->LS
 | []=>[f]
 | k::s=>if k=f then k::s else k::putK f s
noncomputable def np (f:Str) (y:D):LS->List D->List D
 | [],_=>[y]
 | k::h,d::s=>if k=f then y::s else d::np f y h s
 | _::_,[]=>[]
noncomputable def iP (K:FG) (c:Str) (C:Addr):Prop:=PySem.W.nsIn K mainGlobals c=some (some (.ref C))
variable {K:FG}
theorem iP.inj (h:iP K c r) (x:iP K c v):r=v:=by have:=h.symm.trans x;cases this;rfl
noncomputable def Iq (K:FG) (A:Str->Str->Bool):Prop:=∀c f,A c f=true->∃C,iP K c C/\Cls K C/\ka K C f
section
variable {K:FG}{F:Aa}{H:Hp}{m:List Addr}
theorem vT:∀{a:List (Str×V)}{s:List D}{d:D},dc K F H m s (a.map (·.2))->gE f (a.map (·.1)) s=some d->∃v,a.lookup f=some v/\RD K F H m d v
 | [],s,d,_,h=>by cases s <;> cases h
 | (k,x)::r,s,d,q,h=>by
  cases s with
  | nil=>cases h
  | cons w s=>
   obtain⟨y,u,e,t,p⟩:=q;simp only [List.map_cons,pK] at e;obtain⟨rfl,rfl⟩:=e;simp only [List.map_cons,gE] at h;split at h
   .rename_i n;cases h;subst n;exact⟨x,by simp [List.lookup],t⟩
   .rename_i n;obtain⟨v,b,c⟩:=vT p h;exact⟨v,by rw [pN,show (f == k)=false by simpa using fun z=>n z.symm];exact b,c⟩
theorem vS:∀{v:List (Str×V)},(v.map (·.1)).contains f=false->v.lookup f=none
 | [],_=>rfl
 | (k,x)::r,h=>by simp only [List.map_cons,List.contains_cons,Bool.or_eq_false_iff] at h;rw [pN,h.1];exact vS h.2
theorem yj (h:RD K F H m u v):∀{s:List (Str×V)}{d:List D},dc K F H m d (s.map (·.2))->(gZ f v s).map (·.1)=putK f (s.map (·.1))/\dc K F H m (np f u (s.map (·.1)) d) ((gZ f v s).map (·.2))
 | [],d,n=>⟨rfl,v,[],rfl,h,rfl⟩
 | (k,x)::r,d,n=>by
  cases d with
  | nil=>cases (show _=([]:List V) from n)
  | cons p d=>
   obtain⟨z,q,e,c,a⟩:=n;simp only [List.map_cons,pK] at e;obtain⟨rfl,rfl⟩:=e;by_cases b:k=f
   .simp only [gZ,b,ik,List.map_cons,putK,np];first | exact⟨rfl,v,_,rfl,h,a⟩ | exact⟨trivial,v,_,rfl,h,a⟩
   .obtain⟨i,t⟩:=yj h a;simp only [gZ,b,if_false,List.map_cons,putK,np];exact⟨by rw [i],x,_,rfl,c,t⟩
end
section
variable {X:Cx}{o e g:Expr}{f:Str}{J G j:Pos}{T Y:EE}{A:Str->Str->Bool}{es:Ab}{fs:oa}
noncomputable def dD (A:Str->Str->Bool) (o:EE) (f:Str):EE:=fun L S=>aH (o L S) fun d h=>match d with
 | .ref i=>match h[i]? with
  | some (.ins c k s)=>if A c f=true then (gE f k s).map fun z=>(z,h) else none
  | _=>none
 | _=>none
theorem IT (B:Iq X.K A) (R:PE X o (tE X.K T)) (G:attributeBase o f X.env (eval o X.env)=eval o X.env):PE X (.Attribute o f J) (tE X.K (dD A T f)):=(Dl R G).imp' fun N H Q V=>by
 obtain⟨F,m,L,S,d,S',r,l,q,k⟩:=V;obtain⟨x,u,y,q⟩:=af q;refine⟨F,m,L,S,x,u,r,l,y,fun v b Y t s1 n Z=>?_⟩;cases x with
 | p w=>cases q
 | ref i=>
  obtain⟨a,rfl,M⟩:=Z;dsimp only at q;split at q
  .rename_i c W g U;split at q
   .rename_i E;cases h:gE f W g with
    | none=>rw [h] at q;cases q
    | some z=>rw [h] at q;cases q;obtain⟨C,j,s,P,D,rfl,rs⟩:=n.obj i a _ M U;obtain⟨C',e,I,O⟩:=B c f E;cases iP.inj P e;obtain⟨v,K,p3⟩:=vT rs h;exact⟨a,C,j,s,v,rfl,D,I,O,K,k v b Y t s1 n p3⟩
   .cases q
  .cases q
noncomputable def kl (A:Str->Str->Bool) (o:EE) (f:Str) (v:EE):ES:=fun L S=>aH (v L S) fun y x=>aH (o L x) fun d h=>match d with
 | .ref i=>match h[i]? with
  | some (.ins c k s)=>if (A c f && decide (k.length < 900))=true then some (.nx,L,h.set i (.ins c (putK f k) (np f y k s))) else none
  | _=>none
 | _=>none
theorem ET (hA:Iq X.K A) (ho:PE X o (tE X.K T)) (hv:PE X g (tE X.K Y)) (h:swapsWith g (some (.Attribute o f G)) J.line X.env=pure false):PS X (.Assign [.Attribute o f G] g J) (kc X.K (kl A T f Y)):=(C9 ho hv h).imp' fun D N H hz=>by
 obtain⟨F,m,L,S,fl,L',S',r,l,q,k⟩:=hz;obtain⟨y,I,W,q⟩:=af q;obtain⟨d,V,Z,q⟩:=af q;refine⟨F,m,L,S,y,I,r,l,W,fun v U m1 H1 B r1 p1=>?_⟩;refine⟨U,m1,L,I,d,V,r1,l.mono B,Z,fun x e K n E P p2=>?_⟩;cases d with
 | p w=>cases q
 | ref i=>
  obtain⟨a,rfl,j⟩:=p2;dsimp only at q;split at q
  .rename_i c ks ds h;split at q
   .rename_i u;rw [Bool.and_eq_true] at u;cases q;obtain⟨C,b,s,M,O,rfl,rs⟩:=P.obj i a _ j h;obtain⟨C',t,hc,hn⟩:=hA c f u.1;cases iP.inj M t;have hl:s.length < 1000:=by have:=of_decide_eq_true u.2;rw [bu] at this;lia
    have Q:∀R,n a≠some (.tup R):=fun R z=>by rw [O] at z;cases z
    have st:Stp e K n e K (cf n a (.ins C b (gZ f v s))):=fy P j h trivial Q;obtain⟨i1,i2⟩:=yj (f:=f) (RD.mono st (RD.mono E p1)) (dc.mono st rs);exact⟨a,C,b,s,rfl,O,hc,hn,hl,k N e K _ (B.trans (E.trans st)) (P.set j h trivial Q ⟨C,b,_,M,aK,i1,i2⟩) ((l.mono B).mono (E.trans st))⟩
   .cases q
  .cases q
noncomputable def dm (M:Str->Str->Option GF) (o:EE) (y:Str) (a:oa):EE:=fun L S=>aH (o L S) fun d h=>match d with
 | .ref i=>match h[i]? with
  | some (.ins c k _)=>match M c y with
   | some g=>if k.contains y=true then none else aH (a L h) fun O x=>g (.ref i::O) x
   | none=>none
  | _=>none
 | _=>none
noncomputable def Io (X:Cx) (M:Str->Str->Option GF):Prop:=∀c y g,M c y=some g->∃C k f d p,iP X.K c C/\Cls X.K C/\Meth X.K C y f/\FnOk X.prog X.w X.K X.mg X.base pG k f d p (oj X.K g)/\Room k X.A/\Binds X.K d p []
variable {M:Str->Str->Option GF}{y:Str}
theorem o_ (hM:Io X M) {t:TE}{ta:TA} (n:∀C k f b ps g,Cls X.K C->Meth X.K C y f->FnOk X.prog X.w X.K X.mg X.base pG k f b ps (oj X.K g)->Room k X.A->Binds X.K b ps []->PE X e (x8 C y (oj X.K g) [] E0 (tE X.K T) (wL X.K fs))):PE X e (tE X.K (dm M T y fs)):=by
 intro B s N H Q I h;obtain⟨F,m,L,S,d,Y,r,l,q,k⟩:=h;obtain⟨x,o,e1,q⟩:=af q;cases x with
 | p w=>cases q
 | ref i=>
  dsimp only at q;split at q
  .rename_i c ks ds hs;split at q
   .rename_i g hg;split at q
    .cases q
    .rename_i hk;obtain⟨O,K,e2,q⟩:=af q;obtain⟨C,kk,f,b,ps,ec,hc,hm,hF,hr,hb⟩:=hM c y g hg;refine n C kk f b ps g hc hm hF hr hb B s N H Q I ⟨F,m,L,S,.ref i,o,r,l,e1,fun v G m1 H1 D A P=>?_⟩;obtain⟨a,rfl,j⟩:=id P;obtain⟨C',Z,z,u,hH,rfl,rs⟩:=A.obj i a _ j hs;cases iP.inj ec u;refine⟨a,Z,z,rfl,hH,vS (by simpa using hk),G,m1,L,o,O,K,A,l.mono D,e2,fun xs J m2 U E r2 p2=>?_⟩;show oj X.K g (V.ref a::(xs++[])) U Q E0;rw [List.append_nil];exact⟨J,m2,.ref i::O,K,d,Y,r2,⟨_,_,rfl,RD.mono E P,p2⟩,q,fun v R m3 W s3 r3 p3=>k v R m3 W (D.trans (E.trans s3)) r3 p3⟩
   .cases q
  .cases q
theorem E4 (x:Io X M) (n:PE X o (tE X.K T)) (a:PA X (e::es) (wL X.K fs)) (s:starEach (e::es) X.env=(false,eval e X.env)::starEach es X.env) (h:(backTo J (starEach es X.env)).any (·.1)=false)
  (p:eval (.Call (.Attribute o y j) (e::es) [] J) X.env=(do
   let v <- eval o X.env
   standAt j.atName
   let (f,first) <- holding [v] (getMethod v y u)
   callWith J f first (backTo J (starEach (e::es) X.env)) (backToKw J (keywordEach [] X.env)))) :
  PE X (.Call (.Attribute o y j) (e::es) [] J) (tE X.K (dm M T y fs)):=
 o_ (t:=tE X.K T) (ta:=wL X.K fs) x fun C k f d q g c m F r b=>AZ n c m F r b .nil o5 a s h p
theorem Cs (i:Io X M) (B:PE X o (tE X.K T))
  (E:eval (.Call (.Attribute o y j) [] [] J) X.env=(do
   let u <- eval o X.env
   standAt j.atName
   let (f,first) <- holding [u] (getMethod u y pl)
   callWith J f first (backTo J (starEach [] X.env)) (backToKw J (keywordEach [] X.env)))) :
  PE X (.Call (.Attribute o y j) [] [] J) (tE X.K (dm M T y aY)):=
 o_ (t:=tE X.K T) (ta:=wL X.K aY) i fun C k f fd ps g K A p D z=>(yy B K A p D z .nil o5 E).imp' fun N H Q h=>by obtain⟨F,m,L,S,d,n,r,l,q,k⟩:=h;refine⟨F,m,L,S,d,n,r,l,q,fun v e I x Y V R=>?_⟩;obtain⟨a,c,fs,rfl,w,P,s,O,L2,Z,ds,b,W,l2,U,G⟩:=k v e I x Y V R;cases U;exact⟨a,c,fs,rfl,w,P,G [] s O x .refl W rfl⟩
noncomputable def nQ (g:GF) (c:Str) (a:oa):EE:=fun L S=>aH (a L S) fun O h=>match g (.ref h.length::O) (h++[.ins c [] []]) with
 | some (.p .non,x)=>some (.ref h.length,x)
 | _=>none
theorem E5 {C f:Addr}{o:FuncData}{ps:LS}{k:Nat}{x:Str}{p:Pos}{g:GF} (M:Mk X.K C f) (G:FnOk X.prog X.w X.K X.mg X.base pG k f o ps (oj X.K g)) (hr:Room (k+1) X.A) (Z:Gl X x) (hm:X.mg x=some (.ref C)) (U:iP X.K x C) (W:Binds X.K o ps [])
  (V:PA X (e::es) (wL X.K fs)) (i:(x == ("__debug__":Str))=false) (Y:starEach (e::es) X.env=(false,eval e X.env)::starEach es X.env) (z:(backTo J (starEach es X.env)).any (·.1)=false) :
  PE X (.Call (.Name x p) (e::es) [] J) (tE X.K (nQ g x fs)):=
 (A0 M G hr Z hm W .nil o5 V i Y z).imp' fun N H Q hz=>by
  obtain⟨F,m,L,S,d,S',r,l,q,k⟩:=hz;obtain⟨O,t,I,q⟩:=af q;refine⟨F,m,L,S,O,t,r,l,I,fun xs s a b s1 K p1=>fun y h hy w j=>?_⟩;split at q
  .rename_i _ S2 R;cases q;have P:Stp s a b s a (cf b h (.own y)):=io w;have r2:Rel X.K s (cf b h (.own y)) a t:=K.new w;have u:cf b h (.own y) y=none:=by rw [az (Ne.symm j)];exact hy
   have A:Stp s a (cf b h (.own y)) s (a++[y]) (cf (cf b h (.own y)) y (.ins C h [])):=fZ u;have r3:Rel X.K s (cf (cf b h (.own y)) y (.ins C h [])) (a++[y]) (t++[.ins x [] []]):=r2.own u ⟨C,h,[],U,aK,rfl,rfl⟩;rw [List.append_nil];have c:(a++[y])[t.length]? = some y:=by rw [<- K.len,fQ (Nat.le_refl _)];simp
   refine⟨s,a++[y],.ref t.length::O,_,.p .non,_,r3,⟨_,_,rfl,⟨y,rfl,c⟩,dc.mono A (dc.mono P p1)⟩,R,fun v D m4 E B r4 p4=>⟨p4,?_⟩⟩;refine k (.ref y) D m4 E (s1.trans (P.trans (A.trans B))) r4 ⟨y,rfl,?_⟩;obtain⟨n,T⟩:=B.pre;rw [T,List.getElem?_append_left (List.getElem?_eq_some_iff.mp c).1];exact c
  .cases q
end
theorem DB (h:attributeBase o y v (eval o v)=eval o v) (e:methodCallForm (r.length+([]:List Keyword).length) (backTo J (starEach r v)) (backToKw J (keywordEach [] v))=true) (l:(j.endLine == J.line)=true) :
  eval (.Call (.Attribute o y j) r [] J) v=(do
   let u <- eval o v
   standAt j.atName
   let (f,first) <- holding [u] (getMethod u y (do return (<- importBound o v).getD true))
   callWith J f first (backTo J (starEach r v)) (backToKw J (keywordEach [] v))):=by
 have x:methodCallPos true o v j J=pure J:=by unfold methodCallPos;rw [l];rfl
 have a:∀u,methodCall o y j J v u (r.length+([]:List Keyword).length) (backTo J (starEach r v)) (backToKw J (keywordEach [] v))=(do
   let (f,first) <- holding [u] (getMethod u y (do return (<- importBound o v).getD true))
   callWith J f first (backTo J (starEach r v)) (backToKw J (keywordEach [] v))):=fun u=>by
  unfold methodCall;rw [e,x];rfl
 have s:eval (.Call (.Attribute o y j) r [] J) v=(do
  let u <- attributeBase o y v (eval o v)
  standAt j.atName
  methodCall o y j J v u (r.length+([]:List Keyword).length) (backTo J (starEach r v)) (backToKw J (keywordEach [] v))):=by rfl
 rw [s,h];simp only [a]
open PySem.W (KasT kas_sort kas_ask kas_item kat_run kat_snds kat_lt kat_kind KatTups KatLex kat_nil kat_cons kat_yes kat_no kat_one)
noncomputable def Bt (lt:Nat->Nat->Option Bool):KasT d->Option d
 | .ret a=>some a
 | .ask i j k=>match lt i j with
  | some b=>Bt lt (k b)
  | none=>none
theorem zF (c:∀i j b C,lt i j=some b->C b s->r i j C s) (q:Q a s) :
  ∀(t:KasT d),Bt lt t=some a->t.kasWp r Q s
 | .ret _,h=>by cases h;exact q
 | .ask i j k,h=>by
  simp only [Bt] at h;split at h
  .rename_i b x;exact c i j b _ x (zF c q (k b) h)
  .cases h
section
variable {I:Program}{w:World}{A:Around}{E:VP}{s:Shared}{D:Addr}{O:LV}
theorem sY (few:O.length < 2):((arrOf (SortSt.mk' general' (O.toArray.zip O.toArray) #[] 7 none)).map (·.2))=O.toArray:=by
 have same:(O.toArray.zip O.toArray).map (·.2)=O.toArray:=by
  rcases O with _ | ⟨v,_ | ⟨u,r⟩⟩
  .simp
  .simp
  .exact absurd few (by simp)
 exact same
theorem zE (few:O.length < 2) (a:s.heap.get? D=some (seqObj "list" O.toArray r))
  (g:∀x c,(∀b o,b≠D->s.heap.get? b=some o->x.get? b=some o)->x.get? D=some (seqObj "list" O.toArray c)->v (.done (.ret .none)) { s with heap:=x }) :
  wpAny (model I w) A (Builtin.«list.sort» ⟨[.ref D],[]⟩) v E s:=by
 have m:O.length+1≤sizeLine:=by rw [kS];lia
 have cond:O.toArray.size < 2:=by simpa using few
 have h:=get?_update_seq a fun _=>(#[]:Array Value);rw [list_sort_plain];refine wpAny_bind <| listItems_at a rfl <| wpAny_bind <| listUpdate_at a rfl (wpAny_bind <| seqEpoch_at h rfl <| wpAny_bind <| wpAny_newTuple (wpAny_bind <| wpAny_newList (wpAny_holding ?_) (Nat.zero_le _)) (by simpa using p' m)) (by simpa using p' m) (Nat.zero_le _);simp only [cond,ik];have k:∀b o,(s.heap.update D (Obj.mapSeq fun _=>(#[]:Array Value))).get? b=some o->((((s.heap.update D (Obj.mapSeq fun _=>(#[]:Array Value))).push { cls:=.type "tuple",data:=.seq O.toArray }).push { cls:=.type "list",data:=.seq ([]:LV).toArray })).get? b=some o:=
  fun _ _ q=>Heap.get?_push_of_some _ (Heap.get?_push_of_some _ q)
 have t:=k D _ h;refine wpAny_bind <| wpAny_pure <| wpAny_bind <| wpAny_pure ?_;refine wpAny_bind <| seqEpoch_at t rfl <| wpAny_bind <| listUpdate_at t rfl ?_ (Nat.zero_le _) (by rw [sY few];simpa using Nat.le_succ_of_le (p' m));rw [sY few];have EL:=get?_update_seq t fun _=>O.toArray;simp only [bne_self_eq_false,Bool.false_eq_true,if_false,failedOf];refine wpAny_pure (g _ _ (fun b o n e=>?_) EL);exact ((pR _ D _).2 b n).trans (k b o (((pR s.heap D _).2 b n).trans e))
theorem t6 (q:∀a u,Q a u->r a u):∀(t:KasT d) (u:Shared),t.kasWp (kas_ask I w A v O) Q u->t.kasWp (kas_ask I w A v O) r u
 | .ret a,u,h=>q a u h
 | .ask _ _ k,_,h=>wpAny_mono h (fun b u e=>t6 q (k b) u e) fun _ _ x=>x
theorem AD {a:Heap}{L l:Addr}{m:SV}{t:PN}{T:String}{o:Obj}{n:Nat}{G:VP} (F:Fr a L s.heap m) (N:News a L s.heap t) (Z:T="list"\/T="tuple") (ho:s.heap.get? l=some o) (hc:o.cls=.type T) (hd:o.data=.seq O.toArray n) (B:O.length < 64)
  (X:O.length < 2->∀D d c,s.heap.get? D=none->Fr a L d m->News a L d ((D,seqObj "list" O.toArray c)::t)->G (.ref D) { s with heap:=d })
  (Y:2≤O.length->∀D e d,s.heap.get? D=none->(∀q ∈ t,q.1≠D)->Fr a L d m->News a L d ((D,seqObj "list" #[] e)::t) ->
   wpAny (model I w) A.in1.in1 (keyKind' O.toArray) (fun Q u=>(kas_sort O.length).kasWp (kas_ask I w A.in1.in1 Q O) (fun p u=>PySem.W.KasFin a L m D e (p.toList.map fun i=>O.getD i Value.none) (fun u=>G (.ref D) u) u) u) (fun _ _=>False) { s with heap:=d }) :
  wpAny (model I w) A (call (.builtin "sorted") [.ref l]) G E s:=by
 have y:O.length≤sizeLine:=by rw [kS];lia
 refine Calls.call_function_entry (b:=Builtin.«sorted») kind_sorted plain_sorted entry_sorted (args_sorted1 (.ref l)) (wpAny_bind (m:=checkCount "sorted" 1 1 1) <| wpAny_pure <| wpAny_bind <| wpAny_collect_seq l Z ho hc hd (fun h k=>wpAny_bind <| wpAny_newList ?_ y) y);have f:∀b,b=h.objs.size->s.heap.get? b=none:=fun b hb=>by
  cases q:s.heap.get? b with
  | none=>rfl
  | some u=>exact absurd (Heap.lt_size (k b u q)) (by rw [hb];exact iW _)
 have M:∀b u,s.heap.get? b=some u->(h.push { cls:=.type "list",data:=.seq O.toArray }).get? b=some u:=fun b u e=>Heap.get?_push_of_some _ (k b u e);have j:(h.push { cls:=.type "list",data:=.seq O.toArray }).get? h.objs.size=some (seqObj "list" O.toArray 0):=Heap.get?_push_size _ rfl;have H:h.objs.size≠L:=fun z=>by obtain⟨u,_,_,e,_⟩:=F.ns;rw [f L z.symm] at e;cases e
 have S:a.get? h.objs.size=none:=by
  rcases q:a.get? h.objs.size with _ | u
  .rfl
  .have:=F.keep _ _ q;rw [f _ rfl] at this;cases this
 have neN:∀q ∈ t,q.1≠h.objs.size:=fun q hq z=>by have:=(N q hq).1;rw [f _ z] at this;cases this
 have K:=F.keeps M;have P:=N.keeps M;refine wpAny_bind (wpAny_holding (wpAny_call_entry (b:=Builtin.«list.sort») slot_list_sort ⟨_,j,rfl⟩ entry_list_sort ?_ (args_list_sort _)));by_cases few:O.length < 2
 .refine zE (s:={ s with heap:=h.push { cls:=.type "list",data:=.seq O.toArray } }) few j fun d c J e=>⟨_,rfl,wpAny_pure ⟨_,rfl,X few _ d c (f _ rfl) ⟨?_,fun b u q=>?_,F.above⟩ fun q g=>?_⟩⟩
  .obtain⟨u,es,W,V,r⟩:=K.ns;exact⟨u,es,W,J L u H.symm V,r⟩
  .exact J b u (fun z=>by rw [z,S] at q;cases q) (K.keep b u q)
  .rcases av.mp g with rfl | g
   .exact⟨e,H,S⟩
   .exact⟨J _ _ (neN q g) (P q g).1,(P q g).2⟩
 .refine PySem.W.kat_list_sort (s:={ s with heap:=h.push { cls:=.type "list",data:=.seq O.toArray } }) K P j H S neN (by lia) B fun e d R U=>?_;refine wpAny_mono (Y (by lia) _ e d (f _ rfl) neN R U) (fun Q u hu=>?_) fun _ _ x=>x;exact t6 (fun p v C=>C.mono fun v C=>⟨_,rfl,wpAny_pure ⟨_,rfl,C⟩⟩) _ _ hu
end
noncomputable def isInt:P->Bool
 | .int _=>true
 | _=>false
noncomputable def uL:List P->List P->Option Bool
 | [],s=>some (decide (0 < s.length))
 | _::_,[]=>some false
 | .int a::x,.int b::y=>if a == b then uL x y else some (decide (a < b))
 | .str a::x,.str b::y=>if a=b then uL x y else some (decide (a.cps.toList < b.cps.toList))
 | _,_=>none
noncomputable def Bn:P->Bool
 | .int _=>true
 | .str _=>true
 | _=>false
noncomputable def JF:P->P->Option Bool
 | .int a,.int b=>some (decide (a < b))
 | .tup x,.tup y=>uL x y
 | _,_=>none
noncomputable def lr:P->Bool
 | .tup (e::es)=>(e::es).all isInt
 | _=>false
noncomputable def nz:P->Bool
 | .tup (.str _::es)=>es.all Bn
 | _=>false
noncomputable def i6 (d:List P) (i j:Nat):Option Bool:=match d[i]?,d[j]? with
 | some x,some y=>JF x y
 | _,_=>none
noncomputable def lM (d:List P):Option (List P):=if d.length < 2 then some d else if d.length < 64 then (Bt (i6 d) (kas_sort d.length)).bind fun p=>if p.size < 64 then some (p.toList.map fun i=>d.getD i .non) else none else none
noncomputable def sortable (d:List P):Bool:=(d.all isInt || d.all lr) || d.all nz
noncomputable def jj (d:List P):Option P:=if sortable d=true then (lM d).map .lst else none
noncomputable def IV (e:P) (u:Value):Prop:=∃i t,e=P.int i/\u=Value.int i t
noncomputable def FV (e:P) (u:Value):Prop:=IV e u\/∃x t,e=P.str x/\u=Value.str x t
noncomputable def KV (h:Heap) (d:P) (v:Value):Prop:=IV d v\/∃es a o n i,d=.tup es/\v=.ref a/\h.get? a=some o/\o.cls=.type "tuple"/\o.data=.seq (List.toArray i) n/\Paired FV es i
variable {l:Type}{R:d->l->Prop}
theorem ff:∀{s:List d}{a:List l}{i:Nat}{x:d},Paired R s a->s[i]? = some x->∃y,a[i]? = some y/\R x y
 | _,_,_,_,.nil,h=>by simp at h
 | _,_,0,x,.cons (b:=b) r _,h=>⟨b,rfl,by simp at h;subst h;exact r⟩
 | _,_,i+1,x,.cons _ n,h=>by obtain⟨y,e,r⟩:=ff (i:=i) n (by simpa using h);exact⟨y,by simpa using e,r⟩
theorem eB:∀{x:List d}{y:List l},Paired R x y->x.length=y.length
 | _,_,.nil=>rfl
 | _,_,.cons _ r=>by rw [bt,bt,eB r]
variable {h:Heap}
theorem sT:∀{s:List P}{O:LV},Paired (KV h) s O->s.all isInt=true->∃x,IntsAre O x
 | _,_,.nil,_=>⟨[],.nil⟩
 | d::s,_,.cons k r,q=>by
  rw [dw,Bool.and_eq_true] at q;obtain⟨x,i⟩:=sT r q.2;rcases k with ⟨n,t,rfl,rfl⟩ | ⟨es,a,o,n,e,rfl,_⟩
  .exact⟨n::x,.cons n t i⟩
  .exact nomatch q.1
section
variable {I:Program}{w:World}{A:Around}{E:VP}{s:Shared}
theorem BL (r:Paired (KV s.heap) ds O) (q:ds.all isInt=true) (h:i6 ds i L=some b) (c:a0 b s):kas_ask I w A oneType' O i L a0 s:=by
 unfold i6 at h;split at h
 .rename_i x y k f;obtain⟨u,m,d⟩:=ff r k;obtain⟨v,p,g⟩:=ff r f;have j:=bq.mp q x (bY k);have l:=bq.mp q y (bY f);rcases d with ⟨n,t,rfl,rfl⟩ | ⟨es,a,o,n,e,rfl,_⟩
  .rcases g with ⟨z,H,rfl,rfl⟩ | ⟨es,a,o,n,e,rfl,_⟩
   .cases h;unfold kas_ask;rw [ij,ij,m,p];exact PySem.W.kat_lt_int c
   .exact nomatch l
  .exact nomatch j
 .cases h
theorem qF {k:Bool}{Q:Bool->Shared->Prop}:∀{es fs:List P}{n j:LV}{i:Nat}{b:Bool},Paired FV es n->Paired FV fs j->uL es fs=some b->k=decide (n.length < j.length)->Q b s->KatLex I w A true k Q (n.zip j) i s
 | _,_,_,_,i,b,.nil,r,h,f,c=>by cases h;rw [List.zip_nil_left];refine kat_nil ?_;rw [f,<- eB r];exact c
 | _,_,_,_,i,b,.cons _ _,.nil,h,f,c=>by
  have:b=false:=by unfold uL at h;cases h;rfl
  subst this;rw [List.zip_nil_right];refine kat_nil ?_;rw [f];simpa using c
 | _,_,_,_,i,b,.cons v p,.cons m q,h,f,c=>by
  rcases v with ⟨x,t,rfl,rfl⟩ | ⟨x,t,rfl,rfl⟩
  .rcases m with ⟨y,u,rfl,rfl⟩ | ⟨y,u,rfl,rfl⟩
   .rw [List.zip_cons_cons];refine kat_cons (wpAny_eqBool_int ?_);unfold uL at h;by_cases e:(x == y)=true
    .rw [e];rw [if_pos e] at h;exact kat_yes (qF p q h (by rw [f];simp) c)
    .rw [p0] at e;rw [e];rw [e,if_neg bO] at h;cases h;refine kat_no ?_;by_cases a:(i == 0)=true
     .rw [a];exact oneLt_int c
     .rw [p0] at a;rw [a];exact kat_one _ _ (PyProof.Rows.lt_int (show PySem.W.BoolBack Q (.bool _) s from c))
   .unfold uL at h;cases h
  .rcases m with ⟨y,u,rfl,rfl⟩ | ⟨y,u,rfl,rfl⟩
   .unfold uL at h;cases h
   .rw [List.zip_cons_cons];refine kat_cons (wpAny_eqBool_str ?_);unfold uL at h;by_cases e:x=y
    .rw [h_ e];rw [if_pos e] at h;exact kat_yes (qF p q h (by rw [f];simp) c)
    .rw [bv e];rw [if_neg e] at h;cases h;refine kat_no ?_;by_cases a:(i == 0)=true
     .rw [a];exact oneLt_str c
     .rw [p0] at a;rw [a];exact kat_one _ _ (PyProof.Rows.lt_str (show PySem.W.BoolBack Q (.bool _) s from c))
theorem wx {e:List P}{O:LV}{i j:Nat}{b:Bool}{C:Bool->Shared->Prop} (r:Paired (KV s.heap) e O) (q:∀d ∈ e,¬∃n,d=P.int n) (h:i6 e i j=some b) (c:C b s):kas_ask I w A (tuples' true) O i j C s:=by
 unfold i6 at h;split at h
 .rename_i x y p g;obtain⟨u,F,D⟩:=ff r p;obtain⟨v,K,E⟩:=ff r g;have J:=q x (bY p);have L:=q y (bY g);rcases D with ⟨n,t,rfl,rfl⟩ | ⟨es,a,o,n,B,rfl,rfl,S,Q,hd,M⟩
  .exact absurd ⟨_,rfl⟩ J
  .rcases E with ⟨G,T,rfl,rfl⟩ | ⟨z,N,R,G,l,rfl,rfl,f,H,k,m⟩
   .exact absurd ⟨_,rfl⟩ L
   .unfold kas_ask;rw [ij,ij,F,K];exact kat_lt S hd f k (qF M m h (by simp) c)
 .cases h
theorem sN:∀{s:List P}{O:LV},Paired (KV h) s O->s.all lr=true->∃fs,KatTups h O fs/\fs.length=s.length/\∀v ∈ fs,∃i t,v=Value.int i t
 | _,_,.nil,_=>⟨[],.nil,rfl,fun _ z=>nomatch z⟩
 | d::s,_,.cons k r,q=>by
  rw [dw,Bool.and_eq_true] at q;obtain⟨fs,f,e,b⟩:=sN r q.2;rcases k with ⟨n,t,rfl,rfl⟩ | ⟨es,a,o,n,w,rfl,rfl,p,c,hd,x⟩
  .exact nomatch q.1
  .cases x with
   | nil=>exact nomatch q.1
   | cons u x=>
    rcases u with ⟨i,t,rfl,rfl⟩ | ⟨i,t,rfl,rfl⟩;rotate_left
    .simp [lr,isInt] at q
    refine⟨.int i t::fs,.cons p c hd rfl f,by rw [bt,bt,e],fun v m=>?_⟩;rcases av.mp m with rfl | m
    .exact⟨i,t,rfl⟩
    .exact b v m
theorem sO:∀{s:List P}{O:LV},Paired (KV h) s O->s.all nz=true->∃fs,KatTups h O fs/\fs.length=s.length/\∀v ∈ fs,∃x t,v=Value.str x t
 | _,_,.nil,_=>⟨[],.nil,rfl,fun _ z=>nomatch z⟩
 | d::s,_,.cons k r,q=>by
  rw [dw,Bool.and_eq_true] at q;obtain⟨fs,f,b,c⟩:=sO r q.2;rcases k with ⟨n,t,rfl,rfl⟩ | ⟨es,a,o,n,u,rfl,rfl,w,p,hd,e⟩
  .exact nomatch q.1
  .cases e with
   | nil=>exact nomatch q.1
   | cons g e=>
    rcases g with ⟨i,t,rfl,rfl⟩ | ⟨i,t,rfl,rfl⟩
    .exact nomatch q.1
    .refine⟨.str i t::fs,.cons w p hd rfl f,by rw [bt,bt,b],fun v m=>?_⟩;rcases av.mp m with rfl | m
     .exact⟨i,t,rfl⟩
     .exact c v m
theorem B5 {s:List P}{f:P->Bool} (h:∀n,f (.int n)=false) (q:s.all f=true):∀d ∈ s,¬∃n,d=P.int n:=fun d hd z=>by
 obtain⟨n,e⟩:=z;have:=bq.mp q d hd
 rw [e,h] at this;cases this
theorem Bi {d:List P}{O:LV} (r:Paired (KV s.heap) d O) (q:sortable d=true) (m:2≤O.length) :
  wpAny (model I w) A (keyKind' O.toArray) (fun u k=>k=s/\∀i j b C,i6 d i j=some b->C b k->kas_ask I w A u O i j C k) (fun _ _=>False) s:=by
 unfold sortable at q;rw [iX,iX] at q;rcases q with (q | q) | q
 .obtain⟨g,p⟩:=sT r q;have o:keyKind' O.toArray=pure oneType':=by
   rcases O with _ | ⟨x,_ | ⟨y,z⟩⟩
   .exact absurd m (by simp)
   .exact absurd m (by simp)
   .exact keyKind_ints p
  rw [o];exact wpAny_pure ⟨rfl,fun i j b C e c=>BL r q e c⟩
 .obtain⟨fs,f,h,a⟩:=sN r q;refine kat_kind (T:=.type "int") f (by rw [h,eB r];lia) (fun v n=>?_) rfl ⟨rfl,fun i j b C e c=>wx r (B5 (fun _=>rfl) q) e c⟩;obtain⟨i,t,rfl⟩:=a v n;exact PySem.W.Looks.of_peek (K:=[]) (fun _ _ z=>nomatch z) rfl
 .obtain⟨fs,f,h,a⟩:=sO r q;refine kat_kind (T:=.type "str") f (by rw [h,eB r];lia) (fun v n=>?_) rfl ⟨rfl,fun i j b C e c=>wx r (B5 (fun _=>rfl) q) e c⟩;obtain⟨i,t,rfl⟩:=a v n;exact PySem.W.Looks.of_peek (K:=[]) (fun _ _ z=>nomatch z) rfl
end
section
variable {X:Cx}
theorem zA:∀{es:List P}{s:List V}{j:LV},b9 K F H es s->aI s j->es.all Bn=true->Paired FV es j
 | [],_,_,h,r,_=>by cases (show _=([]:List V) from h);cases r;exact .nil
 | e::es,_,_,h,r,q=>by
  obtain⟨y,x,rfl,p,pr⟩:=h;rw [dw,Bool.and_eq_true] at q;cases r with
  | cons v1 v2=>
   cases e with
   | int i=>cases (show y=.int i from p);obtain⟨t,rfl⟩:=v1;exact .cons (.inl ⟨i,t,rfl,rfl⟩) (zA pr v2 q.2)
   | str i=>cases (show y=.str i from p);obtain⟨t,rfl⟩:=v1;exact .cons (.inr ⟨i,t,rfl,rfl⟩) (zA pr v2 q.2)
   | _=>exact nomatch q.1
theorem y6 (I:Inv X B N H s):∀{b:List P}{m:List V}{f:LV},b9 X.K F H b m->aI m f->b.all (fun d=>(isInt d || lr d) || nz d)=true->Paired (KV s.heap) b f
 | [],_,_,h,r,_=>by cases (show _=([]:List V) from h);cases r;exact .nil
 | d::b,_,_,h,r,q=>by
  obtain⟨x,D,rfl,p,g⟩:=h;rw [dw,Bool.and_eq_true] at q;cases r with
  | cons c S=>
   refine .cons ?_ (y6 I g S q.2);cases d with
   | int i=>cases (show x=.int i from p);obtain⟨t,rfl⟩:=c;exact .inl ⟨i,t,rfl,rfl⟩
   | tup es=>
    obtain⟨a,E,rfl,C,K⟩:=p;cases c;obtain⟨j,A,⟨o,w,v,n,hd⟩,_⟩:=I.tuple C.sq;refine .inr ⟨es,a,o,n,j,rfl,rfl,w,v,hd,?_⟩;have z:es.all Bn=true:=by
     have k:=q.1;cases es with
     | nil=>rfl
     | cons e es=>
      have l:∀x:P,isInt x=true->Bn x=true:=fun x h=>by cases x <;> first | rfl | cases h
      rw [iX] at k;rcases k with k | k
      .have y:(e::es).all isInt=true:=by simpa [isInt,lr] using k
       exact bq.mpr fun x u=>l x (bq.mp y x u)
      .cases e with
       | str x=>rw [dw,Bool.and_eq_true];exact⟨rfl,k⟩
       | _=>exact nomatch k
    exact zA K A z
   | _=>exact nomatch q.1
theorem ol (q:sortable r=true):r.all (fun d=>(isInt d || lr d) || nz d)=true:=by
 unfold sortable at q;rw [iX,iX] at q;refine bq.mpr fun x h=>?_
 rcases q with (q | q) | q
 .rw [bq.mp q x h];rfl
 .rw [bq.mp q x h,Bool.or_true];rfl
 .rw [bq.mp q x h,Bool.or_true]
theorem Fd (r:aI u v) (i:Nat):RelV (u.getD i .non) (v.getD i Value.none):=by
 rw [ij,ij];cases e:u[i]? with
 | none=>
  have l:=eB r;have:v[i]? = none:=by rw [pY] at e ⊢;lia
  rw [this];rfl
 | some x=>obtain⟨y,h,a⟩:=ff r e;rw [h];exact a
theorem vo (r:aI u v):∀p:List Nat,aI (p.map fun i=>u.getD i .non) (p.map fun i=>v.getD i Value.none)
 | []=>.nil
 | i::p=>.cons (Fd r i) (vo r p)
theorem yg (r:b9 K F H v u):∀p:List Nat,b9 K F H (p.map fun i=>v.getD i .non) (p.map fun i=>u.getD i .non)
 | []=>rfl
 | i::p=>by
  refine⟨_,_,rfl,?_,yg r p⟩;show RP K F H (v.getD i P.non) (u.getD i V.non);rw [ij,ij];cases e:v[i]? with
  | none=>
   have l:=r.length;have:u[i]? = none:=by rw [pY] at e ⊢;lia
   rw [this];rfl
  | some d=>obtain⟨x,h,a⟩:=r.get e;rw [h];exact a
theorem jv {r:Heap}{A:Nat} (I:Inv X B N H s) (y:s.heap.Ns X.env.locals m) (a:r.Ns X.env.locals m) (k:∀b o,b≠X.env.locals->s.heap.get? b=some o->r.get? b=some o):Inv X B N H { s with heap:=r,toks:=A }:=by
 have L:∀b u,H b=some u->b≠X.env.locals:=fun b u e z=>by rw [z,I.free] at e;cases e
 refine I.step (g':=s.gens) (d':=s.drawn) (ch:=[]) (fun _ z=>nomatch z) (fun b o h _ _ e _=>k b o h e) (fun b o h _ _ e _=>⟨o.slots,k b o h e⟩) (fun _ _ _ _ n=>n) (fun b o _ e=>?_) (fun _ _ e=>e) (fun _ _ _ e=>e) (fun b G e=>⟨#[],by rw [e];simp⟩) (fun K l=>?_) (fun b u e=>?_) I.bare
 .by_cases h:b=X.env.locals
  .subst h;obtain⟨P,_,_,w,_⟩:=a;exact⟨P,w⟩
  .exact⟨o,k b o h e⟩
 .obtain⟨o,es,C,S,hd,D,t⟩:=y;obtain⟨E,i,g,f,d,F,p⟩:=l;rw [S] at f;cases f;rw [hd] at d;cases d;have:m=K:=funext fun x=>(t x).symm.trans (p x);rw [<- this];exact a
 .refine (I.hok b u e).stay (fun c v j q=>k c v ?_ q) (fun _ q=>q) fun _ _ q=>q;rcases j with z | z
  .rw [z];exact L b u e
  .exact L c _ z
theorem ky (k:∀b o,r.get? b=some o->h.get? b=some o) (F:Fr r L v m) (N:News r L v (jB r h L)):∀b o,b≠L->h.get? b=some o->v.get? b=some o:=fun b o x e=>by
 cases q:r.get? b with
 | some u=>have:=k b u q;rw [e] at this;cases this;exact F.keep b _ q
 | none=>exact (N (b,o) (sJ x q e)).1
theorem Dy {P:Program}{w:World}{H:Hp}{h:Heap}{a:Addr}{o:HO} (x:cb P w H h a o):∃u,h.get? a=some u:=by
 cases o with
 | lst s=>obtain⟨_,_,_,_,e⟩:=x;exact⟨_,e⟩
 | tup s=>obtain⟨_,_,_,_,e,_⟩:=x;exact⟨_,e⟩
 | dK k=>obtain⟨_,_,_,_,_,_,_,e,_⟩:=x;exact⟨_,e⟩
 | dT k=>obtain⟨_,_,_,_,_,_,_,e,_⟩:=x;exact⟨_,e⟩
 | set S n=>obtain⟨_,_,_,_,e,_⟩:=x;exact⟨_,e⟩
 | ins C d fs=>obtain⟨_,_,_,e,_⟩:=x;exact⟨_,e⟩
 | own y=>exact x
 | xd fs=>obtain⟨_,⟨_,_,_,e,_⟩,_⟩:=x;exact⟨_,e⟩
 | rng lo i=>obtain⟨_,_,_,e⟩:=x;exact⟨_,e⟩
 | frz b u=>exact⟨_,x.1⟩
 | tbl p=>exact⟨_,(show h.get? a=some _ from x)⟩
 | met f y=>exact⟨_,(show h.get? a=some _ from x)⟩
 | ext c=>exact x.2.1
theorem zn {B:PN}{N:L2.St}{H:Hp}{s:Shared}{D:Addr} (I:Inv X B N H s) (h:s.heap.get? D=none):H D=none:=by
 cases q:H D with
 | none=>rfl
 | some v=>obtain⟨u,e⟩:=Dy (I.hok D v q);rw [h] at e;cases e
theorem xh {B:PN}{N:L2.St}{H:Hp}{s:Shared}{t:Heap}{S:Nat}{m:SV}{D:Addr}{u:HO} (I:Inv X B N H s) (y:s.heap.Ns X.env.locals m) (h:t.Ns X.env.locals m) (k:∀b o,b≠X.env.locals->s.heap.get? b=some o->t.get? b=some o) (j:s.heap.get? D=none) (i:cb X.prog X.w (cf H D u) t D u):Inv X B N (cf H D u) { s with heap:=t,toks:=S }:=by
 have f:=zn I j;have J:∀b o,s.heap.get? b=some o->b≠D:=fun b o e z=>by rw [z,j] at e;cases e
 have r:∀b v,H b=some v->b≠D:=fun b v e z=>by rw [z,f] at e;cases e
 have F:=jv (A:=S) I y h k;refine I.step (g':=s.gens) (d':=s.drawn) (ch:=[]) (fun _ z=>nomatch z) (fun b o L _ _ e _=>k b o L e) (fun b o L _ _ e _=>⟨o.slots,k b o L e⟩) (fun b o _ e n=>(az (J b o e)).trans n) (fun b o _ e=>?_) (fun b O e=>(az (r b _ e)).trans e) (fun b o v e=>(az (r b _ e)).trans e) (fun b U e=>⟨#[],by rw [az (r b _ e),e];simp⟩) (fun G A=>?_) (fun b v e=>?_) I.bare
 .by_cases L:b=X.env.locals
  .subst L;obtain⟨M,_,_,g,_⟩:=h;exact⟨M,g⟩
  .exact⟨o,k b o L e⟩
 .obtain⟨o,es,Q,C,hd,R,p⟩:=y;obtain⟨T,P,K,a,d,E,w⟩:=A;rw [C] at a;cases a;rw [hd] at d;cases d;have:m=G:=funext fun x=>(p x).symm.trans (w x);rw [<- this];exact h
 .by_cases l:b=D
  .subst l;rw [aK] at e;cases e;exact i
  .rw [az l] at e;exact (F.hok b v e).stay (fun _ _ _ q=>q) (fun c q=>(az (r c _ q)).trans q) fun c O q=>(az (r c _ q)).trans q
theorem rH:cJ X (.builtin "sorted") (fun xs H Q=>∃F a A K b,xs=[.ref a]/\(gL X.K H a A\/mP X.K H a A)/\b9 X.K F H K A/\sortable K=true/\lM K=some b/\∀l z,H l=none->b9 X.K F H b z->Q (.ref l) (cf H l (.lst z))):=by
 intro B s N H xs us Q I r h;obtain⟨F,a,A,K,b,rfl,J,L,hs,k,q⟩:=h;obtain⟨u,rfl,rx⟩:=vals1 r;cases rx;obtain⟨m,O⟩:=I.fr;have w:∀(T:String) (hT:T="list"\/T="tuple") (t:LV) (o:Obj) (n:Nat),aI A t->s.heap.get? a=some o->o.cls=.type T->o.data=.seq t.toArray n->wpAny (model X.prog X.w) X.A (call (.builtin "sorted") [.ref a]) (EP X B N Q) X.xe s:=by
  intro T hT t o n M G E hd;have W:=L.length;have Y:=eB M;have S:K.length < 64:=by
   unfold lM at k;split at k
   .lia
   .split at k
    .lia
    .cases k
  have C:∀(z:List V) (j:LV) (D:Addr) (f:Heap) (c:Nat),aI z j->b9 X.K F H b z->j.length≤64->s.heap.get? D=none->Fr X.base X.env.locals f m->News X.base X.env.locals f ((D,seqObj "list" j.toArray c)::jB X.base s.heap X.env.locals)->EP X B N Q (.ref D) { s with heap:=f }:=
   fun z j D f c vz rz hz P d y=>⟨.ref D,_,xh (S:=s.toks) I O.ns d.ns (ky I.bk d fun p Z=>y p (.tail _ Z)) P (show cb X.prog X.w _ f _ (.lst z) from ⟨by rw [eB vz,kS];lia,j,c,vz,(y _ (.head _)).1⟩),rfl,q _ z (zn I P) rz⟩
  refine AD O (nu (g:=X.base)) hT G E hd (by lia) (fun few D f c P d y=>?_) fun two D e f P ne d y=>?_
  .unfold lM at k;rw [if_pos (by lia)] at k;cases k;exact C A t D f c M L (by lia) P d y
  .unfold lM at k;rw [if_neg (by lia),if_pos S] at k;obtain⟨p,ep,k⟩:=Option.bind_eq_some_iff.mp k;split at k;case isFalse=>cases k
   rename_i ps;cases k;have I1:Inv X B N H { s with heap:=f }:=jv (A:=s.toks) I O.ns d.ns (ky I.bk d fun p Z=>y p (.tail _ Z));have U:Bt (i6 K) (kas_sort t.length)=some p:=by rw [<- Y,<- W];exact ep
   refine wpAny_mono (Bi (s:={ s with heap:=f }) (y6 I1 L M (ol hs)) hs two) (fun κ v hv=>?_) fun _ _ x=>x;obtain⟨rfl,R⟩:=hv;exact zF (a:=p) (Q:=fun p u=>PySem.W.KasFin X.base X.env.locals m D e (p.toList.map fun i=>t.getD i Value.none) (fun u=>EP X B N Q (.ref D) u) u) R (PySem.W.KasFin.intro d y (.head ne) fun h2 c F2 N2=>C _ _ D h2 c (vo M p.toList) (yg L p.toList) (by rw [bu,kZ];lia) P F2 N2) _ U
 rcases J with J | J
 .obtain⟨t,r',pl,hz⟩:=I.list J;obtain⟨o,G,E,n,hd⟩:=pl.isList;exact w "list" (.inl rfl) t o n r' G E hd
 .obtain⟨t,r',⟨o,G,E,n,hd⟩,hz⟩:=I.tuple J;exact w "tuple" (.inr rfl) t o n r' G E hd
noncomputable def Et:List D->Option (List P)
 | []=>some []
 | .p v::r=>(Et r).map (v::·)
 | .ref _::_=>none
theorem xW:∀{d:List D}{O:List P},Et d=some O->d=O.map .p
 | [],O,h=>by cases h;rfl
 | .p v::r,O,h=>by
  cases e:Et r with
  | none=>simp only [Et,e] at h;cases h
  | some w=>simp only [Et,e] at h;cases h;rw [xW e];rfl
 | .ref _::_,O,h=>by cases h
theorem BZ:∀{O:List P}{s:List V},dc K F H m (O.map .p) s->b9 K F H O s
 | [],_,h=>h
 | _::_,_,h=>by obtain⟨x,r,e,a,n⟩:=h;exact⟨x,r,e,a,BZ n⟩
noncomputable def AG:P->Option (List P)
 | .lst x=>some x
 | .ro x=>some x
 | .tup x=>some x
 | _=>none
noncomputable def yb:D->aF->Option (List P)
 | .p v,_=>AG v
 | .ref i,S=>match S[i]? with
  | some (.lst d)=>Et d
  | some (.fz v)=>AG v
  | _=>none
noncomputable def vq (r:EE):EV:=fun L S=>aH (r L S) fun d h=>match yb d h with
 | some x=>(jj x).map fun v=>(v,h)
 | none=>none
theorem vH (p:RP K F H w v) (h:AG w=some u):∃a y,v=.ref a/\(gL K H a y\/mP K H a y)/\b9 K F H u y:=by
 cases w with
 | tup d=>obtain⟨a,y,rfl,t,r⟩:=p;cases h;exact⟨a,y,rfl,.inr t.sq,r⟩
 | lst d=>obtain⟨a,y,rfl,t,r⟩:=p;cases h;exact⟨a,y,rfl,.inl t.sq,r⟩
 | ro d=>obtain⟨a,y,rfl,t,r⟩:=p;cases h;exact⟨a,y,rfl,.inl t.sq,r⟩
 | _=>cases h
theorem AH (r:Rel K F H m S) (p:RD K F H m u v) (h:yb u S=some L):∃a y,v=.ref a/\(gL K H a y\/mP K H a y)/\b9 K F H L y:=by
 cases u with
 | p w=>exact vH p h
 | ref i=>
  obtain⟨a,rfl,x⟩:=p;simp only [yb] at h;split at h
  .rename_i d es;obtain⟨y,e,s⟩:=r.obj i a _ x es;rw [xW h] at s;exact⟨a,y,rfl,.inl (gL.of e),BZ s⟩
  .rename_i w es;exact vH (r.obj i a _ x es) h
  .cases h
theorem xR (j:Gl X "sorted") (y:X.mg "sorted"=none) (i:PE X e (tE X.K z)) (n:starEach [e] X.env=[(false,eval e X.env)]:=by rfl):PE X (.Call (.Name "sorted" p) [e] [] J) (tV X.K (vq z)):=
 (kn rH j y PyProof.Rows.boot_sorted (dJ i gA (by rw [n];rfl)) (by decide) (by decide) (by rw [n];rfl) rfl).imp' fun N H Q s=>by
  obtain⟨F,m,L,S,d,I,r,l,q,k⟩:=s;obtain⟨x,t,w,q⟩:=af q;refine⟨F,m,L,S,x,t,r,l,w,fun v c P G D f A=>?_⟩;split at q
  .rename_i b g;unfold jj at q;split at q
   .rename_i n;cases o:lM b with
    | none=>rw [o] at q;cases q
    | some u=>rw [o] at q;cases q;obtain⟨a,E,rfl,K,B⟩:=AH f A g;exact⟨c,a,E,b,u,rfl,K,B,n,o,fun h M s C=>k _ _ P _ (D.trans (bP s).stp) (f.grow (bP s)) (.newLst s C)⟩
   .cases q
  .cases q
end
noncomputable def K6 (K:FG) (e:Bool) (a:Addr):It:=if e=true then BR K a else Ip K a
inductive tIOI (K:FG) (en:Bool) (fe:EE) (σ:L2.St) (H:Hp) (R:It->Hp->Prop):Prop
 | mk (F:Aa) (m:List Addr) (L:Lc) (S:aF) (j:Nat) (S':aF) (ds:List D) (h0_:Rel K F H m S) (h1_:RL K F H m σ L) (h2_:fe L S=some (.ref j,S')) (h3_:S'[j]? = some (.lst ds)) (h4_:∀a F' m' H',Stp F m H F' m' H'->Rel K F' H' m' S'->m'[j]? = some a->R (K6 K en a) H'):tIOI K en fe σ H R
section
variable {X:Cx}{J:Pos}
theorem vb:cJ X (.type "range") (fun x H Q=>∃j:Int,x=[.int j]/\∀r,H r=none->Q (.ref r) (cf H r (.rng 0 j))):=by intro B s N H x n Q I r h;obtain⟨j,rfl,q⟩:=h;obtain⟨u,rfl,a⟩:=vals1 r;obtain⟨t,rfl⟩:=a;refine call_range_1 ?_;exact⟨.ref s.heap.objs.size,_,I.laid (o:=.rng 0 j) (fun b o e=>Heap.get?_push_of_some _ e) (Nat.le_refl _) ⟨_,_,_,Heap.get?_push_size _ rfl⟩,rfl,q _ (I.hok.fresh (Nat.le_refl _))⟩
theorem o6:∀{s:List d}{e:List l},s.length=e.length->(∀(i:Nat) x y,s[i]? = some x->e[i]? = some y->R x y)->Paired R s e
 | [],[],_,_=>.nil
 | [],_::_,h,_=>by simp at h
 | _::_,[],h,_=>by simp at h
 | x::s,y::e,h,k=>.cons (k 0 x y rfl rfl) (o6 (by simpa using h) fun i a b n f=>k (i+1) a b (by simpa using n) (by simpa using f))
theorem uO (h:ItemsOf (fun i v=>∃t,v=Value.int (0+i * 1) t) r n):aI ((List.range n).map fun (i:Nat)=>V.int (i:Int)) r.toList:=by
 obtain⟨z,f⟩:=h;refine o6 (by simp [z]) fun i x y a c=>?_;rw [List.getElem?_map] at a;cases e:(List.range n)[i]? with
 | none=>rw [e] at a;cases a
 | some k=>
  rw [e] at a;cases a;have b:k=i:=by have:=List.getElem?_eq_some_iff.mp e;obtain⟨m,s⟩:=this;simpa using s.symm
  subst b;obtain⟨t,rfl⟩:=f k y (by simpa using c);exact⟨t,by simp⟩
theorem t4 (a:X.calm=true):cJ X (.type "list") (fun k H Q=>∃r j,k=[.ref r]/\H r=some (.rng 0 j)/\j.natAbs < 1000000/\∀l,H l=none->Q (.ref l) (cf H l (.lst ((List.range j.toNat).map fun (i:Nat)=>V.int (i:Int))))):=by
 intro B s N H k z Q I r h;obtain⟨d,j,rfl,p,y,q⟩:=h;obtain⟨u,rfl,w⟩:=vals1 r;cases w;obtain⟨t,u,v,o⟩:=I.hok d _ p;refine call_list_range (n:=j.toNat) (I.ok.hd a) o (small_one (by lia) (by lia) (by lia) (by lia)) (by rw [rangeSize_one];split <;> lia) (by lia) fun f g x c m e b=>?_
 exact⟨.ref s.heap.objs.size,_,I.laid (t':=g) m (Nat.le_refl _) (show cb X.prog X.w _ f _ (.lst _) from ⟨by rw [bu,List.length_range];exact aQ (by lia:j.toNat≤1000000) (by decide),x.toList,c,uO b,by simpa using e⟩),rfl,q _ (I.hok.fresh (Nat.le_refl _))⟩
noncomputable def Er (a:EV):EV:=fun L S=>aH (a L S) fun v h=>match v with
 | .int j=>if decide (j.natAbs < 1000000)=true then some (.lst (intsFrom 0 j.toNat),h) else none
 | _=>none
theorem sm:∀s:List Nat,b9 K F H (s.map fun (i:Nat)=>P.int (0+(i:Int))) (s.map fun (i:Nat)=>V.int (i:Int))
 | []=>rfl
 | i::s=>⟨_,_,rfl,by show V.int _=V.int _;rw [eK],sm s⟩
theorem Am (h:X.calm=true) (K:Gl X "list") (A:X.mg "list"=none) (g:Gl X "range") (s:X.mg "range"=none) (y:PE X a (tV X.K C)) (t:starEach [a] X.env=[(false,eval a X.env)])
  : PE X (.Call (.Name "list" u) [.Call (.Name "range" p2) [a] [] c2] [] c1) (tV X.K (Er C)):=
 (lm (t4 h) K A PyProof.Rows.boot_list (dJ (lm vb g s boot_range (dJ y gA (by rw [t];rfl)) (by decide) (by decide) (by rw [t];rfl) rfl) gA rfl) (by decide) (by decide) rfl rfl).imp' fun N H Q e=>by
  obtain⟨F,m,L,S,d,G,r,l,q,k⟩:=e;obtain⟨x,w,i,q⟩:=af q;refine⟨F,m,L,S,x,w,r,l,i,fun v f B b E D u=>?_⟩;cases x with
  | int j=>
   dsimp only at q;split at q
   .rename_i o;have P:j.natAbs < 1000000:=of_decide_eq_true o;cases q;cases (show v=.int j from u);refine⟨j,rfl,fun p n=>⟨p,j,rfl,aK,P,fun z e=>?_⟩⟩;have c:Grow f b f (cf b p (.rng 0 j)):=b0 n;exact k _ _ B _ (E.trans (c.stp.trans (bP e).stp)) ((D.grow c).grow (bP e)) (.newLst e (sm _))
   .cases q
  | _=>cases q
end
section
variable {X:Cx}{J:Pos}
theorem wI {I:Program}{w:World}{A:Around}{E:VP}{s:Shared}{t l:Addr}{i:Array Value}{v u:Value}{lo x:Option Int}{Q:VP} (h:IsTup s.heap t i) (a:s.heap.IsSliceOf l v u .none) (p:IsPart v lo) (b:IsPart u x)
  (k:HT.d4 i.size 0 lo=0) (f:HT.d4 i.size i.size x=i.size) (q:Q (.ref t) s):wpAny (model I w) A (getItem (.ref t) (.ref l)) Q E s:=by
 have T:s.TypeIs (.ref l) "slice":=by obtain⟨o,e,n,_⟩:=a;exact⟨o,e,n⟩
 unfold getItem;try with_reducible refine wpAny_holding ?_
 first | refine wpAny_bind (wpAny_pure ?_) | skip
 refine wpAny_bind (wpAny_sequenceKey h.typeIs (by decide) ?_);refine wpAny_bind (wpAny_callSpecial?_slot (name:=Str.ofString "__getitem__") h.typeIs jU (wpAny_call_entry jU h.typeIs entry_tuple_getitem ?_ (args_tuple_getitem _ _)));show wpAny _ _ (Builtin.Tuple.tupleItemsOf (.ref t) >>= _) _ _ s;refine wpAny_bind (tupleItemsOf_ h (wpAny_bind (kh T ?_)));rw [if_pos (by decide)];refine wpAny_bind (HT.hG a p b ?_);rw [k,f];have y:((((0:Nat):Int) == 0 && (1:Int) == 1 && (i.size-0) == i.size)=true):=by simp
 show wpAny _ _ (if ((((0:Nat):Int) == 0 && (1:Int) == 1 && (i.size-0) == i.size)=true) then _ else _) _ _ s;rw [if_pos y];refine wpAny_bind (wpAny_bind (kh h.typeIs ?_));refine wpAny_pure ?_;rw [if_pos (by rfl)];first
  | exact wpAny_bind (wpAny_pure (wpAny_pure ⟨_,rfl,wpAny_pure q⟩))
  | exact wpAny_bind (wpAny_rule (wpAny_pure ⟨_,rfl,wpAny_pure q⟩))
  | exact wpAny_pure ⟨_,rfl,wpAny_pure q⟩
theorem x_:BQ X (fun x lo n H Q=>∃a e,x=.ref a/\mP X.K H a e/\HT.d4 e.length 0 lo=0/\HT.d4 e.length e.length n=e.length/\Q (.ref a) H):=by
 intro B s N H x v w g lo n d Q I m b p u h;obtain⟨a,e,rfl,c,k,f,q⟩:=h;cases m;obtain⟨i,r,t,_⟩:=I.tuple c;have l:i.toArray.size=e.length:=by rw [List.size_toArray];exact r.length.symm
 exact⟨"tuple",_,jU.lookup,t.typeIs,wI t b p u (by rw [l];exact k) (by rw [l];exact f) ⟨.ref a,H,I,rfl,q⟩⟩
theorem CW:BQ X (fun x lo e H Q=>∃z,x=.str z/\z.length≤sizeLine/\Q (.str (Txt.slice z lo e)) H):=by
 intro B s N H x v F K lo e S Q I y w g p h;obtain⟨z,rfl,m,q⟩:=h;obtain⟨t,rfl⟩:=y;refine⟨"str",_,PySem.F.slot_str_getitem.lookup,typeIs_str _ _ _,?_⟩;have f:∀lo e:Option Int,Q (.str (Txt.slice z lo e)) H->∀a k,EP X B N Q (.str (Txt.slice z lo e) a) { s with toks:=k }:=fun lo e q a k=>⟨.str _,H,I.tok _,⟨a,rfl⟩,q⟩
 obtain⟨o,n,b,c⟩:=w;cases g with
 | none=>
  cases p with
  | none=>exact pV (l:=none) (u:=none) (st:=none) ⟨o,n,b,c⟩ rfl (mG ⟨aQ (Txt.slice_le z _ _) m,fun a k=>f _ _ q a k⟩)
  | int j r=>exact pV (l:=none) (u:=some (j,r)) (st:=none) ⟨o,n,b,c⟩ rfl (mG ⟨aQ (Txt.slice_le z _ _) m,fun a k=>f _ _ q a k⟩)
 | int i d=>
  cases p with
  | none=>exact pV (l:=some (i,d)) (u:=none) (st:=none) ⟨o,n,b,c⟩ rfl (mG ⟨aQ (Txt.slice_le z _ _) m,fun a k=>f _ _ q a k⟩)
  | int j r=>exact pV (l:=some (i,d)) (u:=some (j,r)) (st:=none) ⟨o,n,b,c⟩ rfl (mG ⟨aQ (Txt.slice_le z _ _) m,fun a k=>f _ _ q a k⟩)
noncomputable def zP:P->Option Int->Option Int->Option P
 | .str x,lo,h=>if fS x.length=true then some (.str (Txt.slice x lo h)) else none
 | .tup s,lo,h=>some (.tup (cut s lo h))
 | x,lo,h=>Lz x lo h
noncomputable def im (a:EV) (lo n:EO):EV:=fun L S=>aH (a L S) fun x h=>aH (lo L h) fun i e=>aH (n L e) fun j s=>(zP x i j).map fun v=>(v,s)
theorem IJ {e:Expr}{lo G:Option Expr}{C:EV}{E D:EO}{J p2:Pos} (W:PE X e (tV X.K C)) (Z:PO X lo (tO X.K E)) (Y:PO X G (tO X.K D)):PE X (.Subscript e (.Slice lo G none p2) J) (tV X.K (im C E D)):=
 (yx ((AE.or (CV.or x_)).or CW) W Z Y).imp' fun N H Q hz=>by
  obtain⟨F,m,L,S,d,S',r,l,q,k⟩:=hz;obtain⟨x,A,T,q⟩:=af q;obtain⟨i,B,U,q⟩:=af q;obtain⟨j,R,V,q⟩:=af q;refine⟨F,m,L,S,x,A,r,l,T,fun v M m1 H1 y r1 p1=>?_⟩;refine⟨M,m1,L,A,i,B,r1,l.mono y,U,fun O m2 H2 o r2=>?_⟩;refine⟨O,m2,L,B,j,R,r2,(l.mono y).mono o,V,fun K f P I b=>?_⟩;have u:=RP.mono I (RP.mono o p1);have c:=y.trans (o.trans I);cases x with
  | lst w=>cases q;obtain⟨a,s,rfl,t,n⟩:=u;exact .inl (.inl ⟨a,s,rfl,t.sq,fun p h=>k _ _ f _ (c.trans (bP h).stp) (b.grow (bP h)) (.newLst h (n.cut i j))⟩)
  | ro w=>cases q;obtain⟨a,s,rfl,t,n⟩:=u;exact .inl (.inl ⟨a,s,rfl,t.sq,fun p h=>k _ _ f _ (c.trans (bP h).stp) (b.grow (bP h)) (.newLst h (n.cut i j))⟩)
  | tup w=>
   obtain⟨a,s,rfl,t,n⟩:=u;cases q;by_cases hw:HT.d4 s.length 0 i=0/\HT.d4 s.length s.length j=s.length
   .have g:cut w i j=w:=by
     unfold cut;rw [n.length,hw.1,hw.2,pH,Nat.sub_zero,<- n.length,pP]
    rw [g] at k;exact .inl (.inr (.inr ⟨a,s,rfl,t.sq,hw.1,hw.2,k _ K f P c b ⟨a,s,rfl,t,n⟩⟩))
   .exact .inl (.inr (.inl ⟨a,s,rfl,t.sq,hw,fun p h=>k _ _ f _ (c.trans (b0 h).stp) (b.grow (b0 h)) (.newTup h (n.cut i j))⟩))
  | str z=>
   cases (show v=.str z from u);simp only [zP] at q;split at q
   .rename_i g;cases q;exact .inr ⟨z,rfl,gh g,k _ K f P c b rfl⟩
   .cases q
  | _=>cases q
noncomputable def bE:List P->Option P
 | [.str x]=>if x.length≤640 then (PySem.intText? x).map .int else none
 | s=>iM s
theorem zY:cJ X (.type "int") (rC X.K bE):=by
 intro B s N H v b Q I r h;obtain⟨F,a,d,c,f,q,k⟩:=h;have o:iM a=some d->wpAny (model X.prog X.w) X.A (call (.type "int") b) (EP X B N Q) X.xe s:=fun q=>BG B s N H v b Q I r ⟨F,a,d,c,f,q,k⟩
 unfold bE at q;split at q
 .rename_i x;split at q
  .rename_i l;cases e:PySem.intText? x with
   | none=>rw [e] at q;cases q
   | some n=>rw [e] at q;cases q;obtain⟨y,rfl,p⟩:=qq f;cases (show y=.str x from p);obtain⟨u,rfl,m⟩:=vals1 r;obtain⟨t,rfl⟩:=m;exact PySem.W.KIN.call_text e l ⟨.int n,H,I.tok _,⟨_,rfl⟩,k _ F H .refl rfl⟩
  .cases q
 .exact o q
variable {e:Expr}{es:Ab}{fs:fN}{p:Pos}
theorem Cq (g:Gl X "int") (m:X.mg "int"=none) (a:PA X (e::es) (nc X.K fs)) (x:starEach (e::es) X.env=(false,eval e X.env)::starEach es X.env) (h:(backTo J (starEach es X.env)).any (·.1)=false) :
  PE X (.Call (.Name "int" p) (e::es) [] J) (tV X.K (ah bE fs)):=ul zY g m PyProof.Rows.boot_int a (by decide) (by decide) x h
inductive PEs (X:Cx):Ab->List EV->Prop
 | nil:PEs X [] []
 | cons {e es f fs}:PE X e (tV X.K f)->PEs X es fs->PEs X (e::es) (f::fs)
noncomputable def vr (a b c:EV):EV:=fun L S=>aH (a L S) fun d h=>aH (b L h) fun y x=>aH (c L x) fun z e=>match d with
 | .dct s O=>match bZ y with
  | some k=>some ((bI k s O).getD z,e)
  | none=>none
 | _=>none
theorem oT:∀{k:List (bC×V)}{d:List P},b9 K F H d (k.map (·.2))->bI u (k.map (·.1)) d=none->fG k u=none
 | [],d,r,h=>rfl
 | (s,v)::k,[],r,h=>by have:=r.length;simp at this
 | (s,v)::k,b::d,r,h=>by
  obtain⟨x,m,e,p,n⟩:=r;rw [List.map_cons] at e;injection e with c f;simp only [List.map_cons,bI] at h;by_cases a:s=u
  .rw [if_pos a] at h;cases h
  .rw [if_neg a] at h;rw [<- f] at n;rw [fF (p:=(s,v)) a];exact oT n h
theorem Cr (hu:X.A.units+1 < cLine) (ho:PE X o (tV X.K T)) (ha:PE X a (tV X.K C)) (hb:PE X b (tV X.K U)) (m:M2 X o "get" ap a b cp):PE X (.Call (.Attribute o "get" ap) [a,b] [] cp) (tV X.K (vr T C U)):=
 (yE hu ho ha hb m).imp' fun N H Q hz=>by
  obtain⟨F,m,L,S,d,S',r,l,q,k⟩:=hz;obtain⟨x,P,R,q⟩:=af q;obtain⟨y,A,V,q⟩:=af q;obtain⟨z,M,W,q⟩:=af q;refine⟨F,m,L,S,x,P,r,l,R,fun v I m1 H1 j r1 p1=>?_⟩;cases x with
  | dct ks O=>
   obtain⟨a,s,rfl,g,B,Y,ra⟩:=id p1;refine⟨a,rfl,.inl ⟨s,.inl B⟩,?_⟩;refine⟨I,m1,L,P,y,A,r1,l.mono j,V,fun vy J m2 H2 f r2 p2=>?_⟩;refine⟨J,m2,L,A,z,M,r2,(l.mono j).mono f,W,fun vz K D t c E p3=>?_⟩;have h:t a=some (.dK s):=(f.trans c).frk _ _ g B;have e:=b9.mono c (b9.mono f ra);have py:=RP.mono c p2;dsimp only at q;split at q
   .rename_i i p;cases q;have u:=fH p py;subst u Y;have G:=j.trans (f.trans c);cases n:bI i (s.map (·.1)) O with
    | none=>have hm:=oT e n;refine⟨none,by rw [<- hm];exact g_.k h,?_⟩;rw [n] at k;exact k vz K D t G E p3
    | some w=>obtain⟨v,Z,h2⟩:=lg e n;refine⟨some v,by rw [<- Z];exact g_.k h,?_⟩;rw [n] at k;exact k v K D t G E h2
   .cases q
  | _=>cases q
noncomputable def Hq (w:World):List DictEntry->List (Str×P)->Prop
 | [],[]=>True
 | e::es,(k,p)::r=>(∃t,e.key=.str k t)/\e.hash=hashStr w k/\(∃v,RelV v e.val/\∀K F H,RP K F H p v)/\Hq w es r
 | _,_=>False
noncomputable def J6 (w:World) (K:FG) (m:SV) (x:Str) (k:List (Str×P)):Prop:=
 ∃a o es e,m x=some (.ref a)/\K.lookup a=some o/\o.ExactDict/\o.data=.dict es e/\Hq w es.toList k/\(k.map (·.1)).Nodup
end
noncomputable def Fk:List bC->List P->Option (List (Str×P))
 | [],[]=>some []
 | .inr k::s,v::O=>(Fk s O).map fun r=>(k,v)::r
 | _,_=>none
noncomputable def zm:P->Bool
 | .dct _ _=>true
 | _=>false
noncomputable def mQ (w:World) (K:FG) (m:SV) (x:Str) (v:P):Prop:=(zm v=false->vh K m x v)/\∀s O,v=.dct s O->∃k,Fk s O=some k/\J6 w K m x k
variable {x:Str}
theorem mQ.plain (h:vh K r x v) (a:zm v=false):mQ w K r x v:=⟨fun _=>h,fun k O e=>by subst e;cases a⟩
section
variable {X:Cx}
theorem lJ:∀{s:List Bool}{u:LV},aI (s.map V.bl) u->LSm.BoolsAre u s
 | [],u,r=>by obtain rfl:u=[]:=i3 (by simpa using r.length.symm);exact .nil
 | b::s,u,r=>by
  cases r with
  | cons q t=>cases (show _=Value.bool b from q);exact .cons b (lJ t)
theorem zV (c:X.calm=true):cJ X (.builtin "all") (fun a H Q=>∃(p:Addr) (b:List Bool),a=[.ref p]/\gL X.K H p (b.map V.bl)/\Q (.bl (b.all id)) H):=by intro B s N H a d Q I r h;obtain⟨p,b,rfl,n,q⟩:=h;obtain⟨u,rfl,f⟩:=vals1 r;cases f;obtain⟨i,k,l,z⟩:=I.list n;obtain⟨m,F⟩:=I.fr;exact LSm.all_bools F (nu (g:=X.base)) (I.ok.hd c) l.isList (lJ k) fun t v x e=>⟨.bl (b.all id),H,jv I F.ns x.ns (ky I.bk x e),rfl,q⟩
theorem zU (c:X.calm=true):cJ X (.builtin "any") (fun a H Q=>∃(p:Addr) (b:List Bool),a=[.ref p]/\gL X.K H p (b.map V.bl)/\Q (.bl (b.any id)) H):=by intro B s N H a d Q I r h;obtain⟨p,b,rfl,n,q⟩:=h;obtain⟨u,rfl,f⟩:=vals1 r;cases f;obtain⟨i,k,l,z⟩:=I.list n;obtain⟨m,F⟩:=I.fr;exact LSm.any_bools F (nu (g:=X.base)) (I.ok.hd c) l.isList (lJ k) fun t v x e=>⟨.bl (b.any id),H,jv I F.ns x.ns (ky I.bk x e),rfl,q⟩
noncomputable def kJ:List P->Option (List Bool)
 | []=>some []
 | .bl b::r=>(kJ r).map (b::·)
 | _=>none
noncomputable def kI:List P->Option P
 | [.lst x]=>(kJ x).map fun b=>.bl (b.all id)
 | _=>none
noncomputable def hZ:List P->Option P
 | [.lst x]=>(kJ x).map fun b=>.bl (b.any id)
 | _=>none
theorem rM:∀{a:List P}{s:List Bool}{x:List V},kJ a=some s->b9 K F H a x->x=s.map V.bl
 | [],s,x,h,r=>by cases h;exact i3 r.length.symm
 | .bl b::a,s,x,h,r=>by simp only [kJ] at h;obtain⟨n,e,rfl⟩:=ig.mp h;obtain⟨y,f,rfl,p,k⟩:=r;cases (show y=.bl b from p);rw [rM e k];rfl
theorem BH (c:X.calm=true):cJ X (.builtin "all") (rC X.K kI):=by
 intro B s N H w u Q I r h;obtain⟨F,m,d,v,f,q,k⟩:=h;unfold kI at q;split at q
 .obtain⟨b,e,rfl⟩:=ig.mp q;obtain⟨x,rfl,p⟩:=qq f;obtain⟨a,y,rfl,t,n⟩:=p;exact zV c B s N H _ u Q I r ⟨a,b,rfl,by rw [<- rM e n];exact t.sq,k _ F H .refl rfl⟩
 .cases q
theorem callAny (c:X.calm=true):cJ X (.builtin "any") (rC X.K hZ):=by
 intro B s N H w u Q I r h;obtain⟨F,m,d,v,f,q,k⟩:=h;unfold hZ at q;split at q
 .obtain⟨b,e,rfl⟩:=ig.mp q;obtain⟨x,rfl,p⟩:=qq f;obtain⟨a,y,rfl,t,n⟩:=p;exact zU c B s N H _ u Q I r ⟨a,b,rfl,by rw [<- rM e n];exact t.sq,k _ F H .refl rfl⟩
 .cases q
variable {e:Expr}{es:Ab}{fs:fN}{p J:Pos}
theorem E2 (g:Gl X "all") (m:X.mg "all"=none) (a:PA X (e::es) (nc X.K fs)) (c:X.calm=true) (x:starEach (e::es) X.env=(false,eval e X.env)::starEach es X.env) (h:(backTo J (starEach es X.env)).any (·.1)=false) :
  PE X (.Call (.Name "all" p) (e::es) [] J) (tV X.K (ah kI fs)):=um (BH c) g m PyProof.Rows.boot_all a (by decide) (by decide) x h
theorem E1 (g:Gl X "any") (m:X.mg "any"=none) (a:PA X (e::es) (nc X.K fs)) (c:X.calm=true) (x:starEach (e::es) X.env=(false,eval e X.env)::starEach es X.env) (h:(backTo J (starEach es X.env)).any (·.1)=false) :
  PE X (.Call (.Name "any" p) (e::es) [] J) (tV X.K (ah hZ fs)):=um (callAny c) g m PyProof.Rows.boot_any a (by decide) (by decide) x h
end
end Ev
namespace Ev
open PySem PySem.Spec PyProof.Rows L2
variable {L:Type}
noncomputable def jJ (x:List L) (lo h st:Option Int):List L:=
 (sliceRange (sliceBounds lo h st x.length).1 (sliceBounds lo h st x.length).2.1 (sliceBounds lo h st x.length).2.2).filterMap (x[·]?)
theorem oQ (r:aI n k):∀s:List Nat,aI (s.filterMap (n[·]?)) (s.filterMap (k[·]?))
 | []=>.nil
 | i::s=>by
  have t:=oQ r s;cases h:n[i]? with
  | none=>simp only [jY,h,aI.none_of r h];exact t
  | some x=>obtain⟨u,a,e⟩:=r.get h;simp only [jY,h,a];exact .cons e t
theorem b9.get' {K:FG}{F:Aa}{H:Hp}:∀{h:List P}{s:List V} (_:b9 K F H h s) (i:Nat),(h[i]? = none/\s[i]? = none)\/∃d x,h[i]? = some d/\s[i]? = some x/\RP K F H d x
 | [],s,r,i=>by cases (show s=[] from r);simp
 | d::h,s,r,i=>by
  obtain⟨x,a,rfl,p,G⟩:=r;cases i with
  | zero=>exact .inr ⟨d,x,rfl,rfl,p⟩
  | succ i=>simpa using b9.get' G i
theorem sk {K:FG}{F:Aa}{H:Hp}{e:List P}{n:List V} (r:b9 K F H e n):∀s:List Nat,b9 K F H (s.filterMap (e[·]?)) (s.filterMap (n[·]?))
 | []=>rfl
 | i::s=>by
  have t:=sk r s;rcases r.get' i with ⟨h,a⟩ | ⟨d,x,h,a,p⟩
  .simp only [jY,h,a];exact t
  .simp only [jY,h,a];exact⟨x,_,rfl,p,t⟩
section
variable {X:Cx}
noncomputable def Au (a:EV) (lo k st:EO):EV:=fun L S=>aH (a L S) fun x h=>aH (lo L h) fun i e=>aH (k L e) fun j s=>aH (st L s) fun c n=>match x,c with
 | .lst f,some c=>if c=0 then none else some (.lst (jJ f i j (some c)),n)
 | _,_=>none
theorem II {e:Expr}{lo hi:Option Expr}{st:Expr}{Y:EV}{fl fh v:EO}{O G:Pos} (he:PE X e (tV X.K Y)) (hl:PO X lo (tO X.K fl)) (hh:PO X hi (tO X.K fh)) (hs:PO X (some st) (tO X.K v)):PE X (.Subscript e (.Slice lo hi (some st) G) O) (tV X.K (Au Y fl fh v)):=by
 intro pins s σ H Q I h;obtain⟨F,m,L,S,d,S',r,l,q,k⟩:=h;obtain⟨x,S1,e1,q⟩:=af q;obtain⟨i,S2,e2,q⟩:=af q;obtain⟨j,S3,e3,q⟩:=af q;obtain⟨c,S4,e4,q⟩:=af q;refine Subscript_ (cC (he pins s σ H (fun n C=>∃u D,Stp F m H u D C/\Rel X.K u C D S1/\RP X.K u C x n) I ⟨F,m,L,S,x,S1,r,l,e1,fun n u D C s1 r1 p1=>⟨u,D,s1,r1,p1⟩⟩) fun n z1 g=>?_);obtain⟨y,C,I1,ry,u,D,p,r1,p1⟩:=g;refine wpAny_Slice (cC (hl pins z1 σ C (fun o M=>o=i/\∃A E,Stp u D C A E M/\Rel X.K A M E S2) I1 ⟨u,D,L,S1,i,S2,r1,l.mono p,e2,fun A E M s2 r2=>⟨rfl,A,E,s2,r2⟩⟩) fun W z2 g=>?_);obtain⟨K,M,I2,pl,eo2,A,E,w,r2⟩:=g;subst eo2;refine cC (hh pins z2 σ M (fun o N=>o=j/\∃B J,Stp A E M B J N/\Rel X.K B N J S3) I2 ⟨A,E,L,S2,j,S3,r2,(l.mono p).mono w,e3,fun B J N s3 r3=>⟨rfl,B,J,s3,r3⟩⟩) fun vu z3 g=>?_
 obtain⟨P,N,I3,pu,eo3,B,J,oh,r3⟩:=g;subst eo3;refine cC (hs pins z3 σ N (fun o R=>o=c/\∃U T,Stp B J N U T R/\Rel X.K U R T S4) I3 ⟨B,J,L,S3,c,S4,r3,((l.mono p).mono w).mono oh,e4,fun U T R s4 r4=>⟨rfl,U,T,s4,r4⟩⟩) fun Z f g=>?_;obtain⟨o4,R,I4,ps,eo4,U,T,BY,r4⟩:=g;subst eo4;have I5:L2.Inv X pins σ R { f with heap:=f.heap.push { cls:=.type "slice",data:=.fields #[W,vu,Z] } }:=I4.kept (t':=f.toks) fun b ob q=>Heap.get?_push_of_some _ q;have px:=RP.mono BY (RP.mono oh (RP.mono w p1));have ss:=p.trans (w.trans (oh.trans BY));cases x with
 | lst ds=>
  cases o4 with
  | none=>cases q
  | some c=>
   dsimp only at q;split at q
   .cases q
   .rename_i hc0;cases q;obtain⟨a,xs,rfl,ta,ra⟩:=px;cases (show n=Value.ref a from ry);obtain⟨t,rv,ht,g⟩:=I5.list ta.sq;show wpAny (model X.prog X.w) X.A (subscriptTail e (.Slice lo hi (some st) G) (.ref a) (.ref f.heap.objs.size)) (EP X pins σ Q) X.xe { f with heap:=f.heap.push { cls:=.type "slice",data:=.fields #[W,vu,Z] } };refine tail_any (ops:=[.ref a,.ref f.heap.objs.size]) ht.isList.typeIs slot_list_getitem.lookup ?_ (by with_unfolding_all rfl);have V:=rv.length;refine wpAny_getItem_list_slice ht.isList (Heap.IsSliceOf.new ..) pl pu ps (fun z=>hc0 (Option.some.inj z)) ?_ (by rw [List.size_toArray];lia);have hp:R (f.heap.push { cls:=.type "slice",data:=.fields #[W,vu,Z] }).objs.size=none:=I5.hok.fresh (Nat.le_refl _);have hv:aI (jJ xs K P (some c)) (slicePick t.toArray K P (some c)).toList:=by
     unfold jJ slicePick;rw [V];simpa using oQ rv _
    have hsz:(jJ xs K P (some c)).length≤sizeLine:=by
     rw [hv.length];have:=slicePick_size_le t.toArray K P (some c)
     have e0:t.toArray.size=t.length:=List.size_toArray ..;have e:(slicePick t.toArray K P (some c)).toList.length=(slicePick t.toArray K P (some c)).size:=kZ;lia
    refine⟨.ref (f.heap.push { cls:=.type "slice",data:=.fields #[W,vu,Z] }).objs.size,_,I5.laid (t':=f.toks) (o:=.lst (jJ xs K P (some c))) (fun b ob q=>Heap.get?_push_of_some _ q) (Nat.le_refl _) ⟨hsz,_,0,hv,?_⟩,rfl,k _ _ T _ (ss.trans (bP hp).stp) (r4.grow (bP hp)) (.newLst hp ?_)⟩
    .have:=Heap.get?_push_size (o:={ cls:=.type "list",data:=.seq (slicePick t.toArray K P (some c)) }) (f.heap.push { cls:=.type "slice",data:=.fields #[W,vu,Z] }) rfl;simpa using this
    .unfold jJ;rw [ra.length];exact sk ra _
 | _=>cases q
end
theorem sW (f:Nat->β->Sem (ForInStep β)) (I:Nat->β->Shared->Prop) (Q:β->Shared->Prop) (k:Nat)
  (turn:∀i b s,i < k->I i b s->wpAny M A (f i b) (fun r s'=>match r with | .yield b'=>I (i+1) b' s' | .done b'=>Q b' s') E s)
  (fin:∀b s,I k b s->Q b s) (b:β) (h:I 0 b s):wpAny M A (forIn [0:k] b f) Q E s:=by
 rw [Std.Legacy.Range.forIn_eq_forIn_range'];refine wpAny_forIn_list f (fun cj b s=>∃i,cj=List.range' i (k-i)/\i≤k/\I i b s) Q (fun x cj b s ⟨i,e,hi,hI⟩=>?_) (fun b s ⟨i,e,hi,hI⟩=>?_) _ b ⟨0,by simp [Std.Legacy.Range.size],Nat.zero_le _,h⟩
 .obtain⟨m,hm⟩:∃m,k-i=m+1:=by
   cases q:k-i with
   | zero=>rw [q] at e;simp at e
   | succ m=>exact⟨m,rfl⟩
  rw [hm,p_] at e;injection e with e1 e2;subst e1;refine wpAny_mono (turn x b s (by lia) hI) (fun r s' hr=>?_) fun _ _ z=>z;cases r with
  | done b'=>exact hr
  | yield b'=>exact⟨x+1,by rw [e2];congr 1;lia,by lia,hr⟩
 .have:k-i=0:=by
   cases q:k-i with
   | zero=>rfl
   | succ m=>rw [q,p_] at e;cases e
  have:i=k:=by lia
  subst this;exact fin b s hI
section
open PySem.SeqAt PySem.MeetsSeq
open PySem.AutoSeq1 (wpAny_loadPart')
theorem wJ (l:Addr) (items:Array Value) (n:Nat) (dd:Option Addr) (sl:Array (OV)) (x:Value) (e:Value->Bool) (j:Nat) (hj:j < items.size)
  (hit:e items[j]=true) (hno:∀m (hm:m < items.size),m < j->e items[m]=false) :
  Meets (Builtin.«tuple.index» ⟨[.ref l,x],[]⟩)
   (fun A R s=>s.heap.get? l=some { cls:=.type "tuple",dict:=dd,data:=.seq items n,slots:=sl }/\(∀y,y ∈ items->EqAt A.in1 s y x (e y))/\R (.ok (.ret (.int j s.toks))) { s with toks:=s.toks+1 }):=
 .of_wp fun prog w A R s h=>by
  obtain⟨hp,g,d,tk,os⟩:=s;obtain⟨hl,he,h⟩:=h
  wp_walk using jW hl,sW _ (fun i b s'=>i≤j/\b.1=none/\s'=⟨hp,g,d,tk,os⟩) _
  case turn=>
   rintro i b s' hi ⟨hij,hb,rfl⟩;have hi':i < items.size:=by lia
   rw [uj hi'];refine wpAny_bind (he _ (Array.getElem_mem hi') prog w _ _ ?_);by_cases hc:i=j
   .subst hc;rw [hit]
    wp_walk
    exact⟨_,rfl,h⟩
   .rw [hno i hi' (by lia)]
    wp_walk
    exact⟨by lia,rfl,rfl⟩
  case fin=>rintro b s' ⟨hij,_,_⟩;exact absurd hij (by lia)
  case h=>exact⟨Nat.zero_le _,rfl,rfl⟩
end
noncomputable def j4 (ps:List P) (y:P):Option Nat:=if (ps.all (cc 19) && cc 19 y)=true then (ma ps).findIdx? fun z=>PyData.eqv z (pd y) else none
noncomputable def oe (Y fb:EV):EV:=fun L S=>aH (Y L S) fun v x=>match v with
 | .lst ps=>aH (fb L x) fun y h=>(j4 ps y).map fun (i:Nat)=>(.int (i:Int),h)
 | .tup ps=>aH (fb L x) fun y h=>(j4 ps y).map fun (i:Nat)=>(.int (i:Int),h)
 | _=>none
section
variable {X:Cx}{pins:PN}{σ:L2.St}{H:Hp}{s:Shared}{F:Aa}{ps:List P}{y:P}{vy:V}{u:Value}{i:Nat}{Q:VK}{a:Addr}
theorem qv:∀qs:List P,(ma qs).length=qs.length
 | []=>rfl
 | q::qs=>by simp [ma,qv qs]
theorem zr (o:X.A.units+64 < cLine) (I:Inv X pins σ H s) (d:RP X.K F H y vy) (g:RelV vy u) (e:j4 ps y=some i) {v:Array Value}{f:List Addr} (k:ReadsAll s.heap v.toList (ma ps) f) :
  ∃t:i < v.size,PyData.eqv (SeqAt.readOf s.heap v[i]) (pd y)=true/\(∀m (x:m < v.size),m < i->PyData.eqv (SeqAt.readOf s.heap v[m]) (pd y)=false)/\v.size=ps.length /\
   ∀z,z ∈ v->SeqAt.EqAt X.A.in1 s z u (PyData.eqv (SeqAt.readOf s.heap z) (pd y)):=by
 unfold j4 at e;split at e;case isFalse=>cases e
 rename_i c;rw [Bool.and_eq_true] at c;obtain⟨j,w⟩:=hJ I 19 d g c.2;have l:=yN c.1;have q:=fB 19 _ c.2;obtain⟨t,b,r⟩:=vj.mp e;have n:=SeqAt.readsAll_map _ _ _ l.1 k;have h:v.size=(ma ps).length:=by rw [<- n];simp
 have a:∀(m:Nat) (x:m < v.size),SeqAt.readOf s.heap v[m]=(ma ps)[m]'(h ▸ x):=fun m x=>by
  have:(v.toList.map (SeqAt.readOf s.heap))[m]? = (ma ps)[m]?:=by rw [n]
  rw [List.getElem?_map,Array.getElem?_toList,uj x,cG (h ▸ x)] at this;simpa using this
 refine⟨by lia,?_,fun m x p=>?_,by rw [h,qv],SeqAt.items_eqAt k w l.1 q.1 (by lia)⟩
 .rw [a];exact b
 .rw [a];simpa using r m p
theorem zq (e:j4 ps y=some i):ps.all (cc 19)=true:=by
 unfold j4 at e;split at e
 .rename_i h;rw [Bool.and_eq_true] at h;exact h.1
 .cases e
theorem va (P:X.A.units+64 < cLine) (I:Inv X pins σ H s) (p:RP X.K F H (.lst ps) (.ref a)) (D:RP X.K F H y vy) (G:RelV vy u) (e:j4 ps y=some i) (q:Q (.int i) H) :
  wpAny (model X.prog X.w) X.A (call (.builtin "list.index") [.ref a,u]) (EP X pins σ Q) X.xe s:=by
 have S:=zq e;obtain⟨M,b⟩:=hJ I 20 p (show RelV (.ref a) (.ref a) from rfl) (by simpa [cc] using S);rw [pd] at b;cases b with
 | @list l o J n _ c x k f w=>
  obtain⟨j,t,v,R,d⟩:=zr P I D G e w;obtain⟨V,B,C,h⟩:=o;dsimp only at k f;subst k f;have O:ps.length≤sizeLine:=by obtain⟨L,W,m,K,E⟩:=p;cases m;obtain⟨z,A,U,r,N,_⟩:=I.lstM K.2;have T:=E.length;lia
  have g:sizeLine < 2 ^ 63:=by decide
  exact call_meets PySem.F.slot_list_index ⟨_,x,rfl⟩ PySem.F.entry_list_index (PySem.F.args_list_index_2 _ _) (SeqAt.list_indexAt a J n B h u _ i j (by lia) t v) ⟨x,d,⟨.int i,H,I.tok _,⟨_,rfl⟩,q⟩⟩
theorem tZ (hu:X.A.units+64 < cLine) (I:Inv X pins σ H s) (px:RP X.K F H (.tup ps) (.ref a)) (py:RP X.K F H y vy) (ru:RelV vy u) (e:j4 ps y=some i) (q:Q (.int i) H) :
  wpAny (model X.prog X.w) X.A (call (.builtin "tuple.index") [.ref a,u]) (EP X pins σ Q) X.xe s:=by
 have ho:=zq e;obtain⟨as,ra⟩:=hJ I 20 px (show RelV (.ref a) (.ref a) from rfl) (by simpa [cc] using ho);rw [pd] at ra;cases ra with
 | @tuple l o vs n _ as' h1 h2 h3 h4=>obtain⟨hi,e1,e2,hz,eq⟩:=zr hu I py ru e h4;obtain⟨oc,od,odt,osl⟩:=o;dsimp only at h2 h3;subst h2 h3;exact call_meets PySem.F.slot_tuple_index ⟨_,h1,rfl⟩ PySem.F.entry_tuple_index (PySem.F.args_tuple_index_2 _ _) (wJ a vs n od osl u _ i hi e1 e2) ⟨h1,eq,⟨.int i,H,I.tok _,⟨_,rfl⟩,q⟩⟩
theorem Ct (hu:X.A.units+64 < cLine) (ho:PE X o (tV X.K T)) (he:PE X e (tV X.K fe)) (hs:starEach [e] X.env=[(false,eval e X.env)])
  (w:attributeBase o "index" X.env (eval o X.env)=eval o X.env) (j:(M.endLine == g.line)=true):PE X (.Call (.Attribute o "index" M) [e] [] g) (tV X.K (oe T fe)):=by
 intro pins s σ H Q I ⟨F,m,L,S,d,Z,r,l,q,k⟩;obtain⟨x,U,e1,q⟩:=af q;refine wpAny_Call_method_late w (by rw [hs];rfl) j rfl (cC (ho pins s σ H (fun v c=>∃f K,Stp F m H f K c/\Rel X.K f c K U/\RP X.K f c x v) I ⟨F,m,L,S,x,U,r,l,e1,fun v f K c W r1 B=>⟨f,K,W,r1,B⟩⟩) fun u W hz=>?_);obtain⟨v,c,Y,ru,f,K,O,r1,B⟩:=hz;have t:∀(id:String) (ps:List P),aH (fe L U) (fun y S2=>(j4 ps y).map fun (i:Nat)=>((.int (i:Int):P),S2))=some (d,Z) ->
   (∀(s:Shared) (h:Hp) (n:Aa) (y:P) (vy:V) (C:Value) (i:Nat),Inv X pins σ h s->(∀p,RP X.K f c p v->RP X.K n h p v)->RP X.K n h y vy->RelV vy C->j4 ps y=some i->Q (.int i) h->wpAny (model X.prog X.w) X.A (call (.builtin id) [u,C]) (EP X pins σ Q) X.xe s) ->
   wpAny (model X.prog X.w) X.A (callWith g (.builtin id) [u] (backTo g (starEach [e] X.env)) []) (EP X pins σ Q) X.xe W:=by
  intro id ps q hc;obtain⟨y,S2,e2,q⟩:=af q;obtain⟨i,E,q⟩:=ig.mp q;cases q;rw [hs];refine Calls.callWith_builtin rfl (Calls.evalArgs_plain (Calls.spliced_cons (cC (he pins W σ c (fun vy h=>∃n A,Stp f K c n A h/\Rel X.K n h A Z/\RP X.K n h y vy) Y ⟨f,K,L,U,y,Z,r1,l.mono O,e2,fun v n A h s2 r2 G=>⟨n,A,s2,r2,G⟩⟩) fun C s2 ⟨vy,h,D,ruy,n,A,R,r2,G⟩=>jX ?_)));exact hc s2 h n y vy C i D (fun p N=>RP.mono R N) G ruy E (k _ n A h (O.trans R) r2 rfl)
 cases x with
 | lst ps=>obtain⟨a,xs,rfl,hq,rp⟩:=id B;cases (show u=Value.ref a from ru);obtain⟨z,its,n',rr,hl,J⟩:=Y.lstM hq.2;exact⟨"list","list.index",uh,PySem.F.slot_list_index,PySem.F.type_list_index,⟨_,J,rfl⟩,fun b eb=>by cases eb;exact⟨_,J,rfl⟩,t _ ps q fun s h n y vy C i D N py ry E q=>va hu D (N _ B) py ry E q⟩
 | tup ps=>obtain⟨a,xs,rfl,hq,rp⟩:=id B;cases (show u=Value.ref a from ru);obtain⟨its,rr,o,J,⟨ec,n',ed⟩,en⟩:=Y.tupleN hq.sq;exact⟨"tuple","tuple.index",PySem.F.plainAttrs_tuple,PySem.F.slot_tuple_index,PySem.F.type_tuple_index,⟨_,J,ec⟩,fun b eb=>by cases eb;exact⟨_,J,en⟩,t _ ps q fun s h n y vy C i D N py ry E q=>tZ hu D (N _ B) py ry E q⟩
 | _=>cases q
end
noncomputable def bQ [DecidableEq L] (k:L):List L->List D->Option D
 | h::s,v::x=>if h=k then some v else bQ k s x
 | _,_=>none
noncomputable def cL [DecidableEq L] (k:L) (v:D):List L->List D->List L×List D
 | h::s,w::x=>if h=k then (h::s,v::x) else (h::(cL k v s x).1,w::(cL k v s x).2)
 | _,_=>([k],[v])
noncomputable def ck:List P->Option (List bC)
 | []=>some []
 | p::r=>(bZ p).bind fun k=>(ck r).map fun s=>k::s
noncomputable def iq (d:D) (S:aF):Option (Nat×List (List bC)×List D):=match d with
 | .ref i=>match S[i]? with
  | some (.dtt k v)=>some (i,k,v)
  | _=>none
 | _=>none
theorem mJ (h:iq d S=some (i,k,n)):d=.ref i/\S[i]? = some (.dtt k n):=by
 unfold iq at h;split at h
 .split at h
  .rename_i e;cases h;exact⟨rfl,e⟩
  .cases h
 .cases h
section
variable {K:FG}{F:Aa}{H:Hp}{m:List Addr}
theorem hR:∀{ps:List P}{s:List bC}{a:List V},ck ps=some s->b9 K F H ps a->a=s.map kV
 | [],s,a,h,r=>by cases h;exact r
 | p::ps,s,a,h,r=>by
  obtain⟨x,m,rfl,b,c⟩:=r;unfold ck at h;cases e:bZ p with
  | none=>rw [e] at h;cases h
  | some k=>
   rw [e] at h;cases n:ck ps with
   | none=>rw [n] at h;cases h
   | some f=>rw [n] at h;cases h;rw [List.map_cons,fH e b,hR n c]
theorem il [DecidableEq L]:∀{C:List (L×V)}{s:List D},dc K F H m s (C.map (·.2)) ->
  match bQ k (C.map (·.1)) s with | some d=>∃v,fG C k=some v/\RD K F H m d v | none=>fG C k=none
 | [],s,r=>by have:s=[]:=i3 r.length;subst this;rfl
 | (a,v)::C,[],r=>by have:=r.length;simp at this
 | (a,v)::C,d::s,r=>by
  obtain⟨x,c,e,p,n⟩:=r;rw [List.map_cons] at e;injection e with f b;rw [<- b] at n;simp only [List.map_cons,bQ];by_cases h:a=k
  .rw [if_pos h];exact⟨v,gy (p:=(a,v)) h,by rw [show v=x from f];exact p⟩
  .rw [if_neg h,fF (p:=(a,v)) h];exact il n
theorem li [DecidableEq L] (b:RD K F H m y u):∀{C:List (L×V)}{s:List D},(C.map (·.1)).Nodup->dc K F H m s (C.map (·.2)) ->
  (L2.putK C k u).map (·.1)=(cL k y (C.map (·.1)) s).1/\dc K F H m (cL k y (C.map (·.1)) s).2 ((L2.putK C k u).map (·.2))
 | [],s,_,r=>by have:s=[]:=i3 r.length;subst this;exact⟨rfl,u,[],rfl,b,rfl⟩
 | (h,w)::C,[],_,r=>by have:=r.length;simp at this
 | (h,w)::C,d::s,g,r=>by
  obtain⟨x,E,e,B,G⟩:=r;rw [List.map_cons] at e g;injection e with i j;subst i;subst j;obtain⟨t,p⟩:=List.nodup_cons.mp g;simp only [List.map_cons,cL];by_cases a:h=k
  .subst a;rw [if_pos rfl];have same:∀l:List (L×V),h ∉ l.map (·.1)->l.map (fun v=>if v.1=h then (v.1,u) else v)=l:=by
    intro l;induction l with
    | nil=>intro _;rfl
    | cons q l A=>
     intro f;rw [List.map_cons] at f;have o:¬q.1=h:=fun z=>f (by rw [<- z];exact List.mem_cons_self)
     rw [List.map_cons,if_neg o,A fun z=>f (aZ _ z)]
   have n:L2.putK ((h,w)::C) h u=(h,u)::C:=by unfold L2.putK;rw [if_pos (by simp),List.map_cons,if_pos rfl,same C t]
   rw [n];exact⟨rfl,u,_,rfl,b,G⟩
  .rw [if_neg a];obtain⟨S,P⟩:=li (k:=k) b p G;have n:L2.putK ((h,w)::C) k u=(h,w)::L2.putK C k u:=by
    unfold L2.putK;rw [e_,bv (show ¬(h,w).1=k from a),mF];by_cases c:(C.any fun v=>decide (v.1=k))=true
    .rw [if_pos c,if_pos c,List.map_cons,if_neg (show ¬(h,w).1=k from a)]
    .rw [if_neg c,if_neg c];rfl
   rw [n,List.map_cons,List.map_cons,S];exact⟨rfl,w,_,rfl,B,P⟩
end
section
variable {X:Cx}{O G:Pos}{o c:Expr}{N:Ab}{T:EE}{v:fN}{fv:EV}
noncomputable def qS:EE:=fun _ S=>some (.ref S.length,S++[.dtt [] []])
theorem Cv:PE X (.Dict [] [] O) (tE X.K qS):=yC.imp' fun σ H Q z=>by obtain⟨F,m,L,S,d,x,r,l,q,k⟩:=z;cases q;intro p h;refine k (.ref p) F (m++[p]) _ (fZ h) (r.own h ⟨[],aK,rfl,rfl⟩) ⟨p,rfl,?_⟩;rw [<- r.len,fQ (Nat.le_refl _)];simp
noncomputable def uW (o:EE) (k:fN):EE:=fun L S=>aH (o L S) fun d x=>aH (k L x) fun ps h=>match iq d h,ck ps with
 | some (_,s,v),some B=>if few ps=true then (bQ B s v).map fun z=>(z,h) else none
 | _,_=>none
theorem Bj (m:X.A.units+1 < cLine):Ad X (fun x y H Q=>∃a v,x=.ref a/\g_ H a y (some v)/\(∃C,H a=some (.dT C))/\Q v H):=by intro c l pins s σ H x y v u Q I t p h b;obtain⟨a,w,rfl,g,⟨C,f⟩,q⟩:=h;cases t;obtain⟨_,_,_,_,o,_,_,e,k,_⟩:=I.hok a _ f;exact tail_any ⟨o,e,k.1⟩ slot_dict_getitem.lookup (ph m I g p fun i d n r=>⟨w,H,n,r,q⟩) b
theorem IQ {J} (hu:X.A.units+1 < cLine) (ho:PE X o (tE X.K T)) (hk:PA X N (nc X.K v)) (hs:kQ (.Tuple N J G)):PE X (.Subscript o (.Tuple N J G) O) (tE X.K (uW T v)):=
 (yA (Bj hu) ho (qt hk) hs).imp' fun σ H Q hz=>by
  obtain⟨F,m,L,S,d,S',r,l,q,k⟩:=hz;obtain⟨x,K,W,q⟩:=af q;obtain⟨ps,P,Y,q⟩:=af q;refine⟨F,m,L,S,x,K,r,l,W,fun h U m1 H1 I r1 p1=>?_⟩;refine⟨U,m1,L,K,ps,P,r1,l.mono I,Y,fun R y m2 V M E G=>?_⟩;cases n:iq x P with
  | none=>rw [n] at q;cases q
  | some t=>
   obtain⟨j,ks,vs⟩:=t;rw [n] at q;cases s:ck ps with
   | none=>rw [s] at q;cases q
   | some B=>
    rw [s] at q;dsimp only at q;split at q
    .rename_i hf;obtain⟨z,Z,q⟩:=ig.mp q;cases q;obtain⟨rfl,f⟩:=mJ n;obtain⟨a,rfl,hm⟩:=RD.mono M p1;obtain⟨C,c,u,rs⟩:=E.obj j a _ hm f;subst u;have A:=il (k:=B) rs;rw [Z] at A;obtain⟨w,ev,i⟩:=A;refine⟨by rw [<- G.length];exact j5 hf,fun b D=>?_⟩;have p:a≠b:=fun z=>by rw [z,D] at c;cases c
     have e:cf V b (.tup R) a=some (.dT C):=by rw [az p];exact c
     have g:=b0 (F:=y) (o:=.tup R) D;rw [hR s G] at e g ⊢;refine⟨a,w,rfl,by rw [<- ev];exact g_.t e aK,⟨C,e⟩,?_⟩;exact k w y m2 _ (I.trans (M.trans g.stp)) (E.grow g) (RD.mono g.stp i)
    .cases q
noncomputable def tj (o:EE) (k:fN):EE:=fun L S=>aH (o L S) fun d h=>match iq d h with
 | none=>none
 | some _=>aH (k L h) fun ps x=>match iq d x,ck ps with
  | some (_,s,v),some B=>if few ps=true then some ((bQ B s v).getD (.p .non),x) else none
  | _,_=>none
theorem E7 {J} (hu:X.A.units+1 < cLine) (ho:PE X o (tE X.K T)) (hk:PA X N (nc X.K v)) (I:M1 X o "get" ap (.Tuple N J G) cp) :
  PE X (.Call (.Attribute o "get" ap) [.Tuple N J G] [] cp) (tE X.K (tj T v)):=
 (yF hu ho (qt hk) I).imp' fun σ H Q hz=>by
  obtain⟨F,m,L,S,d,S',r,l,q,k⟩:=hz;obtain⟨x,p,e1,q⟩:=af q;refine⟨F,m,L,S,x,p,r,l,e1,fun h F1 m1 H1 U r1 p1=>?_⟩;cases e:iq x p with
  | none=>rw [e] at q;cases q
  | some t1=>
   obtain⟨j,ks1,vs1⟩:=t1;rw [e] at q;dsimp only at q;obtain⟨ps,W,e2,q⟩:=af q;obtain⟨rfl,y⟩:=mJ e;obtain⟨a,rfl,hm⟩:=id p1;obtain⟨s,A,_,_⟩:=r1.obj j a _ hm y;refine⟨a,rfl,.inr ⟨s,.inl A⟩,?_⟩;refine⟨F1,m1,L,p,ps,W,r1,l.mono U,e2,fun us c m2 H2 V O G=>?_⟩;cases i:iq (.ref j) W with
   | none=>rw [i] at q;cases q
   | some t=>
    obtain⟨j2,ks,vs⟩:=t;rw [i] at q;cases u:ck ps with
    | none=>rw [u] at q;cases q
    | some B=>
     rw [u] at q;dsimp only at q;split at q
     .rename_i hf;cases q;obtain⟨n,K⟩:=mJ i;cases n;obtain⟨a',e4,M⟩:=RD.mono V p1;cases e4;obtain⟨C,P,E,rs⟩:=O.obj j a _ M K;subst E;have f:=il (k:=B) rs;refine⟨by rw [<- G.length];exact j5 hf,fun b Z=>?_⟩;have D:a≠b:=fun z=>by rw [z,Z] at P;cases P
      have n:cf H2 b (.tup us) a=some (.dT C):=by rw [az D];exact P
      have g:=b0 (F:=c) (o:=.tup us) Z;rw [hR u G] at n g ⊢;refine⟨fG C B,g_.t n aK,?_⟩;cases Y:bQ B (C.map (·.1)) vs with
      | none=>rw [Y] at f k;rw [show fG C B=none from f];exact k .non c m2 _ (U.trans (V.trans g.stp)) (O.grow g) rfl
      | some z=>rw [Y] at f k;obtain⟨w,ev,R⟩:=f;rw [ev];exact k w c m2 _ (U.trans (V.trans g.stp)) (O.grow g) (RD.mono g.stp R)
     .cases q
noncomputable def vI (o:EE) (k:fN) (v:EV):ES:=fun L S=>aH (v L S) fun y a=>aH (o L a) fun d e=>aH (k L e) fun ps h=>match iq d h,ck ps with
 | some (i,s,x),some B=>if (s.Nodup/\few s=true/\few ps=true) then some (.nx,L,h.set i (.dtt (cL B (.p y) s x).1 (cL B (.p y) s x).2)) else none
 | _,_=>none
theorem EN {J} (hu:X.A.units+1 < cLine) (ho:PE X o (tE X.K T)) (i:PA X N (nc X.K v)) (hv:PE X c (tV X.K fv)) (hs:swapsWith c (some (.Subscript o (.Tuple N J G) n)) O.line X.env=pure false) :
  PS X (.Assign [.Subscript o (.Tuple N J G) n] c O) (kc X.K (vI T v fv)):=(vM hu ho (qt i) hv hs).imp' fun D σ H hz=>by
 obtain⟨F,m,L,S,fl,L',S',r,l,q,k⟩:=hz;obtain⟨y,I,e1,q⟩:=af q;obtain⟨d,M,e2,q⟩:=af q;obtain⟨ps,Q,e3,q⟩:=af q;refine⟨F,m,L,S,y,I,r,l,e1,fun h A W H1 s r1 p1=>?_⟩;refine⟨A,W,L,I,d,M,r1,l.mono s,e2,fun x F2 m2 H2 e r2 G=>?_⟩;refine⟨F2,m2,L,M,ps,Q,r2,(l.mono s).mono e,e3,fun us E Y H3 f r3 p3=>?_⟩;cases u:iq d Q with
 | none=>rw [u] at q;cases q
 | some t=>
  obtain⟨j,ks,vs⟩:=t;rw [u] at q;cases w:ck ps with
  | none=>rw [w] at q;cases q
  | some B=>
   rw [w] at q;dsimp only at q;split at q
   .rename_i g;cases q;obtain⟨rfl,N⟩:=mJ u;refine⟨by rw [<- p3.length];exact j5 g.2.2,fun b hb=>?_⟩;have R:=b0 (F:=E) (o:=.tup us) hb;have P:=r3.grow R;have p:=R.stp (m:=Y);obtain⟨a,rfl,K⟩:=RD.mono p (RD.mono f G);obtain⟨C,V,i,rs⟩:=P.obj j a _ K N;subst i;have pv:=RD.mono p (RD.mono f (RD.mono e (show RD X.K A H1 W (.p y) h from p1)));obtain⟨h1,h2⟩:=li (k:=B) pv g.1 rs;have Z:∀zs,cf H3 b (.tup us) a≠some (.tup zs):=fun zs z=>by rw [V] at z;cases z
    have st:=fy (o:=.dT (L2.putK C B h)) P K N trivial Z;have hl:C.length < sizeLine:=by have U:(C.map (·.1)).length≤1000000:=of_decide_eq_true g.2.1;rw [bu] at U;exact kY U (by decide)
    refine⟨a,_,rfl,t_.t (k:=B) V ?_ hl,?_⟩
    .rw [hR w p3];exact aK
    .exact k σ E Y _ (s.trans (e.trans (f.trans (p.trans st)))) (P.set K N trivial Z ⟨_,aK,h1,dc.mono st h2⟩) ((((l.mono s).mono e).mono f).mono (p.trans st))
   .cases q
end
section
variable {X:Cx}{pins:PN}{σ:L2.St}{H:Hp}{s:Shared}{a:Addr}{C:List (bC×V)}{B:bC}{u r:Value}{x:V}{A:Around}{E:VP}
theorem zN (I:Inv X pins σ H s) (e:H a=some (.dK C)) (K:C.length < sizeLine) (S:RelV (kV B) u) (o:RelV x r)
  (t:∀v w n,fG C B=some v->RelV v w->Inv X pins σ H n->Q w n) (p:fG C B=none->∀n,Inv X pins σ (cf H a (.dK (L2.putK C B x))) n->Q r n) :
  wpAny (model X.prog X.w) A (call (.builtin "dict.setdefault") [.ref a,u,r]) Q E s:=by
 obtain⟨z,hd,F,l,k⟩:=wf I.hok e;have h:=l.val B;refine kg PySem.F.slot_dict_setdefault k.typeIs PySem.F.entry_dict_setdefault (PySem.F.args_dict_setdefault_3 _ _ _) (kt_meets_setdefault (bJ X.prog X.w) a (kz S) hd r)
  ⟨F,k,by rw [<- l.length];exact z,fun v f=>?_,fun c m d j=>?_⟩
 .cases q:fG C B with
  | none=>rw [q,f] at h;cases h
  | some b=>rw [q,f] at h;exact t b v _ q h (I.tok _)
 .have q:fG C B=none:=by
   cases q:fG C B with
   | none=>rfl
   | some b=>rw [q,c] at h;cases h
  refine p q _ ?_;have g:∃q,m.get? a=some q:=let ⟨q,_,_,i,_⟩:=d;⟨q,i⟩
  have y:(L2.putK C B x).length≤sizeLine:=by have:=i8 C B x;lia
  exact qX I (by rw [e];exact True.intro) j g (zK y hd (l.put B o) d)
end
section
variable {X:Cx}{o e f:Expr}{ap cp:Pos}{T fd:EE}{fk:EV}
noncomputable def mO (o:EE) (k:EV) (d:EE):EE:=fun L S=>aH (o L S) fun x a=>match jD x a with
 | none=>none
 | some _=>aH (k L a) fun z e=>aH (d L e) fun y h=>match jD x h,bZ z with
  | some (i,s,v),some B=>if (s.Nodup/\few s=true) then match bQ B s v with
    | some w=>some (w,h)
    | none=>some (y,h.set i (.dct (cL B y s v).1 (cL B y s v).2))
   else none
  | _,_=>none
theorem Ao (ho:PE X o (tE X.K T)) (he:PE X e (tV X.K fk)) (hf:PE X f (tE X.K fd)) (n:M2 X o "setdefault" ap e f cp):PE X (.Call (.Attribute o "setdefault" ap) [e,f] [] cp) (tE X.K (mO T fk fd)):=by
 intro pins s σ H Q I ⟨F,m,L,S,d,S',r,l,q,k⟩;obtain⟨x,S1,e1,q⟩:=af q;refine wpAny_Call_method n.base n.few n.line ug PySem.F.slot_dict_setdefault PySem.F.type_dict_setdefault
  (cC (ho pins s σ H (fun v P=>∃b i,Stp F m H b i P/\Rel X.K b P i S1/\RD X.K b P i x v) I ⟨F,m,L,S,x,S1,r,l,e1,fun v b i P s1 r1 p1=>⟨b,i,s1,r1,p1⟩⟩) fun u s1 ⟨v,P,I1,ru,b,i,N,r1,p1⟩=>?_)
 cases D:jD x S1 with
 | none=>rw [D] at q;cases q
 | some t1=>
  obtain⟨j,ks1,vs1⟩:=t1;rw [D] at q;dsimp only at q;obtain⟨z,S2,e2,q⟩:=af q;obtain⟨y,S3,e3,q⟩:=af q;obtain⟨rfl,es1⟩:=qw D;obtain⟨a,rfl,hm⟩:=id p1;obtain⟨Y,hH1,_,_⟩:=r1.obj j a _ hm es1;cases (show u=Value.ref a from ru);obtain⟨t1,t2,_⟩:=uQ I1 (.inl ⟨Y,.inl hH1⟩);refine⟨t1,t2,?_⟩;rw [n.trees];refine Calls.callWith_builtin rfl (Calls.evalArgs_plain (Calls.spliced_cons (cC (he pins s1 σ P (fun vz A=>∃c M,Stp b i P c M A/\Rel X.K c A M S2/\RP X.K c A z vz) I1 ⟨b,i,L,S1,z,S2,r1,l.mono N,e2,fun v c M A s2 r2 G=>⟨c,M,s2,r2,G⟩⟩) fun uz s2 ⟨vz,A,I2,rz,c,M,O,r2,G⟩=>
   Calls.spliced_cons (cC (hf pins s2 σ A (fun vy g=>∃p K,Stp c M A p K g/\Rel X.K p g K S3/\RD X.K p g K y vy) I2 ⟨c,M,L,S2,y,S3,r2,(l.mono N).mono O,e3,fun v p K g s3 U p3=>⟨p,K,s3,U,p3⟩⟩) fun uy s3 ⟨vy,g,I3,ry,p,K,oh,U,p3⟩=>jX ?_))))
  cases eo:jD (.ref j) S3 with
  | none=>rw [eo] at q;cases q
  | some t=>
   obtain⟨j2,ks,vs⟩:=t;rw [eo] at q;cases ek:bZ z with
   | none=>rw [ek] at q;cases q
   | some B=>
    rw [ek] at q;dsimp only at q;split at q
    .rename_i hc;obtain⟨e4,E⟩:=qw eo;cases e4;obtain⟨a',e5,J⟩:=RD.mono (O.trans oh) p1;cases e5;obtain⟨C,hH,hk,rs⟩:=U.obj j a _ J E;subst hk;have R:=il (k:=B) rs;have pz:=RP.mono oh G;have ez:=fH ek pz;subst ez;have hl:C.length < sizeLine:=by
      have h9:(C.map (·.1)).length≤1000000:=of_decide_eq_true hc.2;rw [bu] at h9;exact kY h9 (by decide)
     have Z:=N.trans (O.trans oh);refine zN I3 hH hl rz ry (fun v w s' W rv I'=>?_) fun W s' I'=>?_
     .cases V:bQ B (C.map (·.1)) vs with
      | none=>rw [V] at R;rw [show fG C B=none from R] at W;cases W
      | some w'=>rw [V] at R q;dsimp only at q;cases q;obtain⟨v',h,rd⟩:=R;rw [W] at h;cases h;exact⟨v,g,I',rv,k v p K g Z U rd⟩
     .cases V:bQ B (C.map (·.1)) vs with
      | some w'=>rw [V] at R;obtain⟨v',h,_⟩:=R;rw [W] at h;cases h
      | none=>
       rw [V] at q;dsimp only at q;cases q;obtain⟨h1,h2⟩:=li (k:=B) p3 hc.1 rs;have nt:∀zs,g a≠some (.tup zs):=fun zs z=>by rw [hH] at z;cases z
       have st:=fy (o:=.dK (L2.putK C B vy)) U J E trivial nt;exact⟨vy,_,I',ry,k vy p K _ (Z.trans st) (U.set J E trivial nt ⟨_,aK,h1,dc.mono st h2⟩) (RD.mono st p3)⟩
    .cases q
end
end Ev
namespace PySem
open PySem PyProof.Rows
section
variable {prog:Program}{w:World}{A:Around}{E:VP}{s:Shared}
theorem sf (t:s.heap.IsTupleIter k h i) (f:s.heap.IsTuple h n) (b:n[i]? = some x)
  (e:∀a,a.IsTupleIter k h (i+1)->Heap.SameBut k s.heap a->Q x { s with heap:=a }):wpAny (model prog w) A (Builtin.SmallTypes.nextOf (.ref k)) Q E s:=by
 have T:=t.typeIs;obtain⟨⟨q,v,m,r⟩,o,c,hd⟩:=id t;obtain⟨u,l,_,p,d⟩:=f;dsimp only at c hd;subst c hd;unfold Builtin.SmallTypes.nextOf;apply wpAny_bind;apply wpAny_callSpecial?_slot (name:=Str.ofString "__next__") T F.slot_tuple_iterator_next;refine wpAny_call_entry F.slot_tuple_iterator_next T F.entry_tuple_iterator_next ?_ (F.args_tuple_iterator_next_1 _);repeat first | with_reducible refine wpAny_bind (wpAny_field o rfl (x:=.ref h) rfl ?_) | wp_step
 rw [d];apply wpAny_pure;simp only [Int.toNat_natCast,b];apply wpAny_bind;apply wpAny_setField o rfl (by simp);refine wpAny_pure ⟨x,rfl,wpAny_pure (e _ ⟨_,qc _ o rfl,rfl,?_⟩ (pR ..))⟩;simp [Obj.mapFields,rawInt]
noncomputable def fL (h:Heap) (z TI TO:Addr) (f x:Value):Prop:=h.get? z=some { cls:=.type "zip",data:=.fields #[f,x,.bool false,.ref TI,.ref TO] }
noncomputable def eF (h:Heap) (T:Addr) (a b:Value):Prop:=h.get? T=some { cls:=.type "tuple",data:=.seq #[a,b] }
theorem xM (l y:Addr) (X Y:Array Value):Meets (Builtin.«zip.__new__» ⟨[.type "zip",.ref l,.ref y],[]⟩) (fun _ R s=>s.heap.IsList l X/\s.heap.IsTuple y Y /\
  ∀v S F TI TO z,(∀b o,s.heap.get? b=some o->v.get? b=some o)->s.heap.objs.size≤S->S < F->F < TI->TI < TO->TO < z->v.IsListIter S l 0->v.IsTupleIter F y 0->eF v TI (.ref S) (.ref F)->eF v TO .none .none ->
   fL v z TI TO .none (.bool false)->R (.ok (.ret (.ref z))) { s with heap:=v }):=
 .of_wp fun prog w A R s h=>by
  obtain⟨i,g,d,V,os⟩:=s;obtain⟨B,C,h⟩:=h;have U:=sub_zip;have L:Heap.IsList (Shared.heap ⟨i,g,d,V,os⟩) l X:=B;have P:Heap.IsTuple (Shared.heap ⟨i.push { cls:=.type "list_iterator",data:=.fields #[.ref l,.int 0 0] },g,d,V,os⟩) y Y:=C.push _
  wp_walk using wpAny_pyIter_list L,wpAny_pyIter_tuple P
  have j:∀(u n x a f c:Heap) (r t p q m:Obj),n=u.push r->x=n.push t->a=x.push p->f=a.push q->c=f.push m->r.isFreed=false->t.isFreed=false->p.isFreed=false->q.isFreed=false->m.isFreed=false ->
    (∀b o,u.get? b=some o->c.get? b=some o)/\u.objs.size < n.objs.size/\n.objs.size < x.objs.size/\x.objs.size < a.objs.size/\a.objs.size < f.objs.size /\
    c.get? u.objs.size=some r/\c.get? n.objs.size=some t/\c.get? x.objs.size=some p/\c.get? a.objs.size=some q/\c.get? f.objs.size=some m:=by
   intro u n x a f c r t p q m E G I J M f1 f2 f3 f4 f5;have N:n.get? u.objs.size=some r:=by rw [E];exact Heap.get?_push_size _ f1
   have O:x.get? n.objs.size=some t:=by rw [G];exact Heap.get?_push_size _ f2
   have Q:a.get? x.objs.size=some p:=by rw [I];exact Heap.get?_push_size _ f3
   have T:f.get? a.objs.size=some q:=by rw [J];exact Heap.get?_push_size _ f4
   have g5:c.get? f.objs.size=some m:=by rw [M];exact Heap.get?_push_size _ f5
   have W:∀b o,n.get? b=some o->x.get? b=some o:=fun b o e=>by rw [G];exact Heap.get?_push_of_some _ e
   have D:∀b o,x.get? b=some o->a.get? b=some o:=fun b o e=>by rw [I];exact Heap.get?_push_of_some _ e
   have K:∀b o,a.get? b=some o->f.get? b=some o:=fun b o e=>by rw [J];exact Heap.get?_push_of_some _ e
   have H:∀b o,f.get? b=some o->c.get? b=some o:=fun b o e=>by rw [M];exact Heap.get?_push_of_some _ e
   exact⟨fun b o e=>H _ _ (K _ _ (D _ _ (W _ _ (by rw [E];exact Heap.get?_push_of_some _ e)))),Heap.lt_size N,Heap.lt_size O,Heap.lt_size Q,Heap.lt_size T,H _ _ (K _ _ (D _ _ (W _ _ N))),H _ _ (K _ _ (D _ _ O)),H _ _ (K _ _ Q),H _ _ T,g5⟩
  let r:Obj:={ cls:=.type "list_iterator",data:=.fields #[.ref l,.int 0 0] }
  let n:=i.push r
  let t:Obj:={ cls:=.type "tuple_iterator",data:=.fields #[.ref y,.int 0 0] }
  let x:=n.push t
  let p:Obj:={ cls:=.type "tuple",data:=.seq #[.ref i.objs.size,.ref n.objs.size] }
  let a:=x.push p
  let q:Obj:={ cls:=.type "tuple",data:=.seq #[.none,.none] }
  let f:=a.push q
  let m:Obj:={ cls:=.type "zip",data:=.fields #[.none,.bool false,.bool false,.ref x.objs.size,.ref a.objs.size] }
  obtain⟨k,s1,s2,s3,s4,Z,a2,a3,a4,a5⟩:=j i n x a f (f.push m) r t p q m rfl rfl rfl rfl rfl rfl rfl rfl rfl rfl;exact⟨_,rfl,h (f.push m) i.objs.size n.objs.size x.objs.size a.objs.size f.objs.size k (Nat.le_refl _) s1 s2 s3 s4 ⟨_,Z,rfl,rfl⟩ ⟨_,a2,rfl,rfl⟩ a3 a4 a5⟩
end
section
variable {prog:Program}{w:World}{A:Around}{E:VP}{s:Shared}
theorem xG (h:Q (s.heap.get? a) s):wpAny M A (loadIfAlive a) Q E s:=fun x p _=>by unfold loadIfAlive;rw [Sem.wp_loadIfAlive];exact (Sem.wp_pure ..).mpr h
theorem nG {z TI TO T:Addr}{f:Bool}{o:Obj}{Q:Bool->Shared->Prop} (a:fL s.heap z TI TO (rawInt T) (.bool f)) (n:s.heap.get? T=some o)
  (h:∀e,fL e z TI TO (rawInt T) (.bool true)->Heap.SameBut z s.heap e->Q false { s with heap:=e }):wpAny (model prog w) A (Builtin.SmallTypes.ownedTupleIsFree (.ref z)) Q E s:=by
 unfold Builtin.SmallTypes.ownedTupleIsFree;apply wpAny_bind;refine wpAny_field (show s.heap.get? z=some _ from a) rfl (x:=rawInt T) rfl ?_;unfold rawInt;dsimp only;apply wpAny_bind;refine xG ?_;rw [Int.toNat_natCast,n];rw [if_neg (by simp)];apply wpAny_bind;refine wpAny_field (show s.heap.get? z=some _ from a) rfl (x:=.bool f) rfl ?_;cases f with
 | true=>rw [if_neg (by decide)];exact wpAny_pure (h s.heap a ⟨rfl,fun _ _=>rfl⟩)
 | false=>rw [if_pos (by decide)];apply wpAny_bind;refine wpAny_setField (show s.heap.get? z=some _ from a) rfl (by simp) (wpAny_pure (h _ ?_ (pR ..)));unfold fL;rw [qc _ (show s.heap.get? z=some _ from a) rfl];simp [Obj.mapFields]
theorem wA {z TI TO i h l m T:Addr}{K:Bool}{k:Nat}{H S:Array Value}{x y:Value}{X:Obj}{Q:VP} (q:fL s.heap z TI TO (rawInt T) (.bool K)) (I:eF s.heap TI (.ref i) (.ref h)) (D:s.heap.get? T=some X)
  (P:s.heap.IsListIter i l k) (B:s.heap.IsTupleIter h m k) (t:s.heap.IsList l H) (p:s.heap.IsTuple m S) (L:H[k]? = some x) (M:S[k]? = some y)
  (u:i≠z) (g:h≠z) (R:l≠z) (V:m≠z) (j:h≠i) (W:m≠i) (n7:l≠h) (n8:l≠i) (n9:m≠h)
  (C:∀f:Heap,fL f z TI TO (rawInt T) (.bool true)->f.IsListIter i l (k+1)->f.IsTupleIter h m (k+1)->(∀c o,c≠z->c≠i->c≠h->s.heap.get? c=some o->f.get? c=some o) ->
   Q (.ref f.objs.size) { s with heap:=f.push { cls:=.type "tuple",data:=.seq #[x,y] } }) :
  wpAny (model prog w) A (Builtin.«zip.__next__» ⟨[.ref z],[]⟩) (fun r Y=>∃v,r=.done (.ret v)/\Q v Y) E s:=by
 unfold Builtin.«zip.__next__»;apply wpAny_bind;apply wpAny_pure;apply wpAny_bind;refine wpAny_field (show s.heap.get? z=some _ from q) rfl (x:=.bool false) rfl ?_;apply wpAny_bind;refine wpAny_field (show s.heap.get? z=some _ from q) rfl (x:=.ref TI) rfl ?_;apply wpAny_bind;refine wpAny_seqItems (show s.heap.get? TI=some _ from I) rfl ?_;dsimp only;rw [if_neg (by simp)];apply wpAny_bind;refine nG q D fun Z d b=>?_
 rw [if_neg (by simp)];apply wpAny_bind;rw [<- Array.forIn_toList];show wpAny _ _ (forIn [Value.ref i,Value.ref h] _ _) _ _ _;rw [List.forIn_cons];apply wpAny_bind;apply wpAny_bind;apply wpAny_holding;show wpAny _ _ (Builtin.SmallTypes.nextOf (.ref i) >>= _) _ _ _;apply wpAny_bind;refine wpAny_nextOf_list_item (P.extBut b.extBut u) (t.extBut b.extBut R) L fun ha N a=>wpAny_pure ?_;dsimp only;apply wpAny_pure;dsimp only;rw [List.forIn_cons];apply wpAny_bind;apply wpAny_bind;apply wpAny_holding;show wpAny _ _ (Builtin.SmallTypes.nextOf (.ref h) >>= _) _ _ _;apply wpAny_bind;refine sf ((B.extBut b.extBut g).extBut a.extBut j) ((p.extBut b.extBut V).extBut a.extBut W) M fun G O n=>wpAny_pure ?_;dsimp only;apply wpAny_pure;dsimp only;rw [List.forIn_nil];apply wpAny_pure;dsimp only;apply wpAny_bind;refine wpAny_newTuple (hsz:=by show 2≤sizeLine;decide) (wpAny_pure ⟨_,rfl,C G ?_ ?_ O ?_⟩)
 .exact n.extBut _ _ (Ne.symm g) (a.extBut _ _ (Ne.symm u) d)
 .exact N.extBut n.extBut (Ne.symm j)
 .exact fun c o J U F e=>n.extBut _ _ F (a.extBut _ _ U (b.extBut _ _ J e))
theorem xN {z TI TO i f n T:Addr}{t:Bool}{k:Nat}{m:Array Value}{H:Obj}{Q:Fin->Shared->Prop} (d:A.handled=none) (a:fL s.heap z TI TO (rawInt T) (.bool t)) (I:eF s.heap TI (.ref i) (.ref f)) (v:s.heap.get? T=some H)
  (p:s.heap.IsListIter i n k) (l:s.heap.IsList n m) (u:m[k]? = none) (j:i≠z) (y:n≠z)
  (q:∀h e,(∀c o,c≠z->c≠i->s.heap.get? c=some o->h.get? c=some o)->(∃o,h.get? e=some o/\o.cls=.type "StopIteration")->E (.ref e) { s with heap:=h }) :
  wpAny (model prog w) A (Builtin.«zip.__next__» ⟨[.ref z],[]⟩) Q E s:=by
 unfold Builtin.«zip.__next__»;apply wpAny_bind;apply wpAny_pure;apply wpAny_bind;refine wpAny_field (show s.heap.get? z=some _ from a) rfl (x:=.bool false) rfl ?_;apply wpAny_bind;refine wpAny_field (show s.heap.get? z=some _ from a) rfl (x:=.ref TI) rfl ?_;apply wpAny_bind;refine wpAny_seqItems (show s.heap.get? TI=some _ from I) rfl ?_;dsimp only;rw [if_neg (by simp)];apply wpAny_bind;refine nG a v fun S g b=>?_
 rw [if_neg (by simp)];apply wpAny_bind;rw [<- Array.forIn_toList];show wpAny _ _ (forIn [Value.ref i,Value.ref f] _ _) _ _ _;rw [List.forIn_cons];apply wpAny_bind;apply wpAny_bind;apply wpAny_holding;show wpAny _ _ (Builtin.SmallTypes.nextOf (.ref i) >>= _) _ _ _;apply wpAny_bind;exact wpAny_nextOf_list_end d (p.extBut b.extBut j) (l.extBut b.extBut y) u fun h e x o=>q h e (fun c F J U r=>x _ _ U (b.extBut _ _ J r)) o
end
section
variable {prog:Program}{w:World}{A:Around}{E:VP}{s:Shared}
theorem wB {z TI TO i m K l:Addr}{xs ys:Array Value}{x y:Value}{Q:VP} (d:fL s.heap z TI TO .none (.bool false)) (I:eF s.heap TI (.ref i) (.ref m)) (O:eF s.heap TO .none .none)
  (h1:s.heap.IsListIter i K 0) (h2:s.heap.IsTupleIter m l 0) (B:s.heap.IsList K xs) (C:s.heap.IsTuple l ys) (hx:xs[0]? = some x) (hy:ys[0]? = some y)
  (N:i≠z) (V:m≠z) (n3:K≠z) (n4:l≠z) (n5:m≠i) (n6:l≠i) (W:TO≠z) (X:TO≠i) (Y:TO≠m) (R:l≠TO)
  (hQ:∀(q:Heap) (T:Addr),fL q z TI TO (rawInt T) (.bool false)->q.IsListIter i K 1->q.IsTupleIter m l 1->eF q T x y->s.heap.get? T=none->(∀c o,c≠z->c≠i->c≠m->c≠TO->s.heap.get? c=some o->q.get? c=some o) ->
   Q (.ref T) { s with heap:=q }) :
  wpAny (model prog w) A (Builtin.«zip.__next__» ⟨[.ref z],[]⟩) (fun P s'=>∃v,P=.done (.ret v)/\Q v s') E s:=by
 unfold Builtin.«zip.__next__»;apply wpAny_bind;apply wpAny_pure;apply wpAny_bind;refine wpAny_field (show s.heap.get? z=some _ from d) rfl (x:=.bool false) rfl ?_;apply wpAny_bind;refine wpAny_field (show s.heap.get? z=some _ from d) rfl (x:=.ref TI) rfl ?_;apply wpAny_bind;refine wpAny_seqItems (show s.heap.get? TI=some _ from I) rfl ?_;dsimp only;rw [if_neg (by simp)];apply wpAny_bind;unfold Builtin.SmallTypes.ownedTupleIsFree;apply wpAny_bind;refine wpAny_field (show s.heap.get? z=some _ from d) rfl (x:=.none) rfl (wpAny_pure ?_);rw [if_pos rfl];apply wpAny_bind;apply wpAny_rule;apply wpAny_bind;refine wpAny_field (show s.heap.get? z=some _ from d) rfl (x:=.ref TO) rfl ?_;dsimp only;apply wpAny_bind;refine wpAny_setField_rec (show s.heap.get? z=some _ from d) (by simp) fun h0 D b=>?_
 apply wpAny_bind;show wpAny _ _ (forIn [(Value.ref i,0),(Value.ref m,1)] _ _) _ _ _;rw [List.forIn_cons];apply wpAny_bind;apply wpAny_bind;apply wpAny_onRaise;show wpAny _ _ (Builtin.SmallTypes.nextOf (.ref i) >>= _) _ _ _;apply wpAny_bind;refine wpAny_nextOf_list_item (h1.extBut b.extBut N) (B.extBut b.extBut n3) hx fun ha ia h=>wpAny_pure ?_;dsimp only;have H:ha.get? TO=some { cls:=.type "tuple",data:=.seq #[.none,.none] }:=h.extBut _ _ X (b.extBut _ _ W O);apply wpAny_bind;refine wpAny_seqItems H rfl ?_;dsimp only;apply wpAny_bind;refine wpAny_updateSeq_pair (s:={ s with heap:=ha }) H fun hb t a=>?_;replace t:hb.get? TO=some { cls:=.type "tuple",data:=.seq #[x,.none] }:=t;apply wpAny_bind;apply wpAny_letGo;apply wpAny_pure;dsimp only;rw [List.forIn_cons];apply wpAny_bind;apply wpAny_bind;apply wpAny_onRaise;show wpAny _ _ (Builtin.SmallTypes.nextOf (.ref m) >>= _) _ _ _;apply wpAny_bind;refine sf (((h2.extBut b.extBut V).extBut h.extBut n5).extBut a.extBut (Ne.symm Y)) (((C.extBut b.extBut n4).extBut h.extBut n6).extBut a.extBut R) hy fun hc ic n=>wpAny_pure ?_;dsimp only;have S:hc.get? TO=some { cls:=.type "tuple",data:=.seq #[x,.none] }:=n.extBut _ _ Y t;apply wpAny_bind;refine wpAny_seqItems S rfl ?_;dsimp only;apply wpAny_bind;refine wpAny_updateSeq_pair (s:={ s with heap:=hc }) S fun hd p f=>?_;replace p:hd.get? TO=some { cls:=.type "tuple",data:=.seq #[x,y] }:=p;apply wpAny_bind;apply wpAny_letGo;apply wpAny_pure;dsimp only;rw [List.forIn_nil];apply wpAny_pure;dsimp only;apply wpAny_bind;refine wpAny_seqItems p rfl ?_;dsimp only;apply wpAny_bind;refine wpAny_newTuple (hsz:=by show 2≤sizeLine;decide) ?_;have u:hd.get? z=some { cls:=.type "zip",data:=.fields #[.ellipsis,.bool false,.bool false,.ref TI,.ref TO] }:=f.extBut _ _ (Ne.symm W) (n.extBut _ _ (Ne.symm V) (a.extBut _ _ (Ne.symm W) (h.extBut _ _ (Ne.symm N) D)));have F:=Heap.lt_size u;have G:(hd.push { cls:=.type "tuple",data:=.seq #[x,y] }).get? z=some { cls:=.type "zip",data:=.fields #[.ellipsis,.bool false,.bool false,.ref TI,.ref TO] }:=Heap.get?_push_of_some _ u;apply wpAny_bind;unfold Builtin.SmallTypes.ownedTupleHandOut;dsimp only;apply wpAny_bind;refine wpAny_setField_rec G (by simp) fun he L g=>?_;refine wpAny_setField_rec L (by simp) fun hf M j=>?_;have k:∀c o,c≠z->hd.get? c=some o->hf.get? c=some o:=fun c o J e=>j.extBut _ _ J (g.extBut _ _ J (Heap.get?_push_of_some _ e));refine wpAny_pure ⟨_,rfl,hQ hf hd.objs.size M ?_ ?_ ?_ ?_ ?_⟩
 .exact (((ia.extBut a.extBut (Ne.symm X)).extBut n.extBut (Ne.symm n5)).extBut f.extBut (Ne.symm X)).at fun o e=>k _ o N e
 .obtain⟨o,e,r⟩:=ic.extBut f.extBut (Ne.symm Y);exact⟨o,k _ o V e,r⟩
 .exact j.extBut _ _ (cD F) (g.extBut _ _ (cD F) (Heap.get?_push_size _ rfl))
 .cases e:s.heap.get? hd.objs.size with
  | none=>rfl
  | some o=>exact absurd (Heap.lt_size e) (by rw [f.1,n.1,a.1,h.1,b.1];exact iW _)
 .exact fun c o J U c3 Z e=>k c o J (f.extBut _ _ Z (n.extBut _ _ c3 (a.extBut _ _ Z (h.extBut _ _ U (b.extBut _ _ J e)))))
theorem xO (j:A.handled=none) (a:fL s.heap z TI TO .none (.bool false)) (T:eF s.heap TI (.ref k) (.ref I))
  (u:s.heap.IsListIter k d 0) (l:s.heap.IsList d M) (y:M[0]? = none) (t:k≠z) (S:d≠z)
  (i:∀h e,(∀c o,c≠z->c≠k->s.heap.get? c=some o->h.get? c=some o)->(∃o,h.get? e=some o/\o.cls=.type "StopIteration")->E (.ref e) { s with heap:=h }) :
  wpAny (model prog w) A (Builtin.«zip.__next__» ⟨[.ref z],[]⟩) Q E s:=by
 unfold Builtin.«zip.__next__»;apply wpAny_bind;apply wpAny_pure;apply wpAny_bind;refine wpAny_field (show s.heap.get? z=some _ from a) rfl (x:=.bool false) rfl ?_;apply wpAny_bind;refine wpAny_field (show s.heap.get? z=some _ from a) rfl (x:=.ref TI) rfl ?_;apply wpAny_bind;refine wpAny_seqItems (show s.heap.get? TI=some _ from T) rfl ?_;dsimp only;rw [if_neg (by simp)];apply wpAny_bind;unfold Builtin.SmallTypes.ownedTupleIsFree;apply wpAny_bind;refine wpAny_field (show s.heap.get? z=some _ from a) rfl (x:=.none) rfl (wpAny_pure ?_);rw [if_pos rfl];apply wpAny_bind;apply wpAny_rule;apply wpAny_bind;refine wpAny_field (show s.heap.get? z=some _ from a) rfl (x:=.ref TO) rfl ?_;dsimp only;apply wpAny_bind;refine wpAny_setField_rec (show s.heap.get? z=some _ from a) (by simp) fun K r b=>?_
 apply wpAny_bind;show wpAny _ _ (forIn [(Value.ref k,0),(Value.ref I,1)] _ _) _ _ _;rw [List.forIn_cons];apply wpAny_bind;apply wpAny_bind;apply wpAny_onRaise;show wpAny _ _ (Builtin.SmallTypes.nextOf (.ref k) >>= _) _ _ _;apply wpAny_bind;refine wpAny_nextOf_list_end j (u.extBut b.extBut t) (l.extBut b.extBut S) y fun h e x o=>?_;have n:=x _ _ (Ne.symm t) r;refine wpAny_setField_rec (s:={ s with heap:=h }) n (by simp) fun g H f=>i g e (fun c p J U v=>f.extBut _ _ J (x _ _ U (b.extBut _ _ J v))) ?_;obtain⟨p,m,c⟩:=o;have F:e≠z:=fun q=>by rw [q,n] at m;cases m;exact absurd (show Value.type "zip"=Value.type "StopIteration" from c) (by decide)
 exact⟨p,f.extBut _ _ F m,c⟩
end
theorem rX:typeLookup (.type "zip") "keys"=pure none:=by rw [typeLookup_type,builtinLookup_eq_fast];kernel_rfl
theorem mX:typeLookup (.type "zip") "__getattr__"=pure none:=by rw [typeLookup_type,builtinLookup_eq_fast];kernel_rfl
theorem lf:entryFor table "zip.__getattribute__"=some Builtin.«object.__getattribute__»:=
 entryFor_alias (id':="object.__getattribute__") (by kernel_rfl) (by decide +kernel) (by decide +kernel) (by kernel_rfl)
section
variable {prog:Program}{w:World}{A:Around}{E:VP}{s:Shared}
theorem xL (z TI TO:Addr) (f0 f1:Value) (u:Tok):Meets (Builtin.«object.__getattribute__» ⟨[.ref z,.str "keys" u],[]⟩) (fun A R s=>fL s.heap z TI TO f0 f1/\raisesAttr (.ref z) "keys" A R s):=
 .of_wp fun prog w A R s hs=>by
  obtain⟨hp,g,d,tk,os⟩:=s;obtain⟨hx,hs⟩:=hs;unfold fL at hx;have hT:(⟨hp,g,d,tk,os⟩:Shared).TypeIs (.ref z) "zip":=⟨_,hx,rfl⟩;have nk:=rX;unfold Builtin.«object.__getattribute__»;repeat any_goals first | assumption | wp_step
  exact wpAny_raiseAttrError hs.1 hs.2 (attrMsg_fits (by decide +kernel) (by size_fits))
theorem wz (q:fL s.heap z TI TO l j) (i:A.handled=none)
  (h:∀x v,(∀b o,s.heap.get? b=some o->x.get? b=some o)->Q none { s with heap:=x,toks:=v }):wpAny (model prog w) A (getAttr? (.ref z) "keys") Q E s:=by
 obtain⟨p,g,d,v,os⟩:=s;have T:∀t,(⟨p,g,d,t,os⟩:Shared).TypeIs (.ref z) "zip":=fun _=>⟨_,q,rfl⟩;have j:=sub_AttributeError;have y:=qf.lookup;have H:=qf.bind (.ref z);have S:=mX;have step:∀(n:Nat) (u:Tok) (m:VP) (f:VP),(∀x c e,Heap.NewAttrErr p x e (.ref z) "keys"->f (.ref e) ⟨x,g,d,c,os⟩) ->
   wpAny (model prog w) A (call (Value.builtin "zip.__getattribute__") ([Value.ref z]++[Value.str "keys" u]) []) m f ⟨p,g,d,n,os⟩:=fun n u m f k=>
  call_meets qf (T _) lf (F.args_zip_getattribute_2 _ _) (xL z TI TO _ _ u) ⟨q,i,k⟩
 unfold getAttr?;unfold getAttrBy?;unfold getAttrBy;repeat any_goals first | assumption | exact T _ | (with_reducible refine step _ _ _ _ fun x t e a=>?_) | wp_step
 have r:=a.there;obtain⟨K,P,r⟩:=r;repeat any_goals first | assumption | wp_step
 exact h _ _ a.keeps
end
section
variable {prog:Program}{w:World}{A:Around}{E:VP}{s:Shared}
theorem xK (n:s.TypeIs (.ref z) "zip")
  (h:wpAny (model prog w) A.in1 (Builtin.«zip.__next__» ⟨[.ref z],[]⟩) (fun f x=>∃v,f=.done (.ret v)/\Q (some v) x) (fun e x=>∃a o,e=.ref a/\x.heap.get? a=some o/\o.cls=.type "StopIteration"/\Q none x) s) :
  wpAny (model prog w) A (pyNext (.ref z)) Q E s:=by
 unfold pyNext;apply wpAny_bind;apply wpAny_attempt;refine wpAny_callSpecial?_slot (name:=Str.ofString "__next__") n F.slot_zip_next (wpAny_call_entry F.slot_zip_next n F.entry_zip_next (wpAny_mono h (fun f x ⟨v,e,q⟩=>⟨v,e,wpAny_pure q⟩) fun e x ⟨a,o,k,c,m,q⟩=>?_) (F.args_zip_next_1 _));subst k;apply wpAny_bind;exact wpAny_isInstance (T:="StopIteration") (b:=true) ⟨_,c,m⟩ isSubtype_stop (wpAny_pure q)
noncomputable def BP (d:Addr) (h:Heap) (z TI TO i x l a:Addr) (k:Nat):Prop:=eF h TI (.ref i) (.ref x)/\h.IsListIter i l k/\h.IsTupleIter x a k /\
 ((k=0/\fL h z TI TO .none (.bool false)/\eF h TO .none .none)\/∃(T:Addr) (o:Obj) (f:Bool),fL h z TI TO (rawInt T) (.bool f)/\h.get? T=some o/\T≠z/\T≠i/\T≠x/\T≠d)
structure ZAp (d z TI TO i1 i2 l1 l2:Addr):Prop where
 nd:[d,z,TI,TO,i1,i2].Nodup
 l1n:l1 ∉ [d,z,TI,TO,i1,i2]
 l2n:l2 ∉ [d,z,TI,TO,i1,i2]
theorem BP.typeIs (x:BP d s.heap z TI TO n q l g k):s.TypeIs (.ref z) "zip":=by
 obtain⟨_,_,_,⟨_,h,_⟩ | ⟨T,o,f,h,_⟩⟩:=x
 .exact⟨_,h,rfl⟩
 .exact⟨_,h,rfl⟩
theorem BP.but (x:BP d h z TI TO q g l j k) (p:ZAp d z TI TO q g l j) (s:Heap.SameBut d h I):BP d I z TI TO q g l j k:=by
 have n:=p.nd;simp only [List.nodup_cons,av,ey,ee,not_or] at n;obtain⟨b,c,m,r⟩:=x;refine⟨s.extBut _ _ (Ne.symm n.1.2.1) b,c.extBut s.extBut (Ne.symm n.1.2.2.2.1),m.extBut s.extBut (Ne.symm n.1.2.2.2.2),?_⟩;rcases r with ⟨e,a,t⟩ | ⟨T,o,v,a,t,w,u,i,f⟩
 .exact .inl ⟨e,s.extBut _ _ (Ne.symm n.1.1) a,s.extBut _ _ (Ne.symm n.1.2.2.1) t⟩
 .exact .inr ⟨T,o,v,s.extBut _ _ (Ne.symm n.1.1) a,s.extBut _ _ f t,w,u,i,f⟩
theorem xP (p:ZAp d z TI TO I M l1 l2) (a:BP d s.heap z TI TO I M l1 l2 k) (hd:s.heap.get? d=some od) (l:s.heap.IsList l1 xs) (b:s.heap.IsTuple l2 ys) (B:xs[k]? = some x) (C:ys[k]? = some y)
  (P:∀h T,BP d h z TI TO I M l1 l2 (k+1)->eF h T x y->T≠d->(∀c o,c ∉ [z,TO,I,M]->s.heap.get? c=some o->h.get? c=some o)->Q (some (.ref T)) { s with heap:=h }) :
  wpAny (model prog w) A (pyNext (.ref z)) Q E s:=by
 have V:=p.nd;have R:=p.l1n;have U:=p.l2n;simp only [List.nodup_cons,av,ey,ee,not_or] at V R U;refine xK a.typeIs ?_;obtain⟨m,g,i,O⟩:=a;rcases O with ⟨e,v,t⟩ | ⟨T,W,f1,v,t,J,L,N,Z⟩
 .subst e;refine wB v m t g i l b B C (by grind) (by grind) (by grind) (by grind) (by grind) (by grind) (by grind) (by grind) (by grind) (by grind) fun h T S F K D G q=>?_
  have fresh:∀c o,s.heap.get? c=some o->T≠c:=fun c o f z=>by rw [z,f] at G;cases G
  obtain⟨X,j,_⟩:=g;obtain⟨Y,H,_⟩:=i;exact P h T ⟨q _ _ (by grind) (by grind) (by grind) (by grind) m,F,K,.inr ⟨T,_,false,S,D,fresh _ _ v,fresh _ _ j,fresh _ _ H,fresh _ _ hd⟩⟩ D (fresh _ _ hd) fun c o n f=>q c o (fun z=>n (by simp [z])) (fun z=>n (by simp [z])) (fun z=>n (by simp [z])) (fun z=>n (by simp [z])) f
 .refine wA v m t g i l b B C (by grind) (by grind) (by grind) (by grind) (by grind) (by grind) (by grind) (by grind) (by grind) fun h S F K q=>?_;have dl:d < h.objs.size:=Heap.lt_size (q _ _ (by grind) (by grind) (by grind) hd);have u:∀c o,h.get? c=some o->(h.push { cls:=.type "tuple",data:=.seq #[x,y] }).get? c=some o:=fun c o e=>Heap.get?_push_of_some _ e;refine P _ _ ⟨u _ _ (q _ _ (by grind) (by grind) (by grind) m),?_,?_,.inr ⟨T,W,true,u _ _ S,u _ _ (q _ _ J L N t),J,L,N,Z⟩⟩ (Heap.get?_push_size _ rfl) (cD dl) fun c o n f=>u _ _ (q c o (fun z=>n (by simp [z])) (fun z=>n (by simp [z])) (fun z=>n (by simp [z])) f)
  .obtain⟨o,e,r⟩:=F;exact⟨o,u _ _ e,r⟩
  .obtain⟨o,e,r⟩:=K;exact⟨o,u _ _ e,r⟩
theorem Aj (u:A.handled=none) (p:ZAp d z TI TO j I M l2) (a:BP d s.heap z TI TO j I M l2 k) (l:s.heap.IsList M xs) (i:xs[k]? = none)
  (v:∀h,(∀c o,c ∉ [z,TO,j,I]->s.heap.get? c=some o->h.get? c=some o)->Q none { s with heap:=h }):wpAny (model prog w) A (pyNext (.ref z)) Q E s:=by
 have S:=p.nd;have H:=p.l1n;simp only [List.nodup_cons,av,ey,ee,not_or] at S H;refine xK a.typeIs ?_;obtain⟨r,t,F,y⟩:=a;rcases y with ⟨e,n,g⟩ | ⟨T,P,K,n,g,B,C,D,G⟩
 .subst e;exact xO u n r t l i (by grind) (by grind) fun h e q n=>by obtain⟨o,b,m⟩:=n;exact⟨e,o,rfl,b,m,v h fun c o x f=>q c o (fun z=>x (by simp [z])) (fun z=>x (by simp [z])) f⟩
 .exact xN u n r g t l i (by grind) (by grind) fun h e q ⟨o,b,m⟩=>⟨e,o,rfl,b,m,v h fun c o x f=>q c o (fun z=>x (by simp [z])) (fun z=>x (by simp [z])) f⟩
end
section
variable {prog:Program}{w:World}{K:Type} [DecidableEq K] {t:KeyKind prog w K}{A:Around}{E:VP}{R:Result->Shared->Prop}
inductive ZipsAt (knd:KeyKind prog w K):LV->LV->List (K×Value)->Prop
 | nil {vs:LV}:ZipsAt knd [] vs []
 | cons {key v:Value}{k:K}{us vs:LV}{kvs:List (K×Value)}:knd.is k key=true->ZipsAt knd us vs kvs->ZipsAt knd (key::us) (v::vs) ((k,v)::kvs)
theorem u1 (hh:A.handled=none) {n:Heap} (p:ZAp d z TI TO i1 i2 l1 l2) (fr:∀c ∈ [d,z,TI,TO,i1,i2],n.get? c=none) (G:n.IsList l1 g) (hl2:n.IsTuple l2 ys) :
  ∀(cj:List (K×Value)) (i:Nat) (a:List (K×Value)) (s:Shared),(∀b o,n.get? b=some o->s.heap.get? b=some o)->BP d s.heap z TI TO i1 i2 l1 l2 i->s.heap.DictOf t d a->ZipsAt t (g.toList.drop i) (ys.toList.drop i) cj ->
   ((a++cj).map (·.1)).Nodup->(a++cj).length≤sizeLine->i+cj.length=g.size ->
   (∀u t',(∀b o,n.get? b=some o->u.get? b=some o)->u.DictOf t d (a++cj)->R (.ok (.ret .none)) { s with heap:=u,toks:=t' }) ->
   codeAny (model prog w) A (.builtin "dict.update.loop" ⟨[.ref d,.ref z,rawInt i,.none],[]⟩) R s:=by
 have nd:=p.nd;simp only [List.nodup_cons,av,ey,ee,not_or] at nd;have H:∀b o,n.get? b=some o->b ∉ [d,z,TI,TO,i1,i2]:=fun b o e m=>by rw [fr b m] at e;cases e
 have dz:d ∉ [z,TO,i1,i2]:=by simp only [av,ey,ee,not_or];grind
 intro cj;induction cj with
 | nil=>
  intro i a s S j hd Q J U hi h;have E:g[i]? = none:=by simp at hi ⊢;lia
  have l:s.heap.IsList l1 g:=by obtain⟨o,y,r⟩:=G;exact⟨o,S _ _ y,r⟩
  refine codeAny_builtin F.entry_dict_update_loop ?_;rw [Around.under_plainId F.plain_dict_update_loop _];unfold Builtin.«dict.update.loop»;show wpAny _ A.in1 (pyNext (.ref z) >>= _) _ _ s;refine wpAny_bind (Aj hh p j l E fun u P=>?_);show wpAny _ A.in1 (Builtin.Dict.addKeywords d [] >>= _) _ _ _;rw [List.append_nil] at h;apply wpAny_bind;apply wpAny_pure;apply wpAny_pure;refine h u s.toks (fun b o e=>P b o (fun m=>H b o e (by simp only [av,ey,ee] at m ⊢;grind)) (S b o e)) ?_;obtain⟨o,N,ep,y,r⟩:=hd;exact⟨o,N,ep,P _ _ dz y,r⟩
 | cons kv cj ih=>
  intro i a s S j hd Q J U hi h;have l:s.heap.IsList l1 g:=by obtain⟨o,y,r⟩:=G;exact⟨o,S _ _ y,r⟩
  have I:s.heap.IsTuple l2 ys:=by obtain⟨o,y,r⟩:=hl2;exact⟨o,S _ _ y,r⟩
  generalize er:g.toList.drop i=us at Q;generalize N:ys.toList.drop i=vs at Q;cases Q with
  | cons hk hps=>
   rename_i B v k us' vs';have hx:g[i]? = some B:=by have:=congrArg (·[0]?) er;simpa using this
   have hy:ys[i]? = some v:=by have:=congrArg (·[0]?) N;simpa using this
   have X:g.toList.drop (i+1)=us':=by rw [<- List.drop_drop,er];rfl
   have Y:ys.toList.drop (i+1)=vs':=by rw [<- List.drop_drop,N];rfl
   obtain⟨od,V,W,L,hdr⟩:=id hd;refine codeAny_builtin F.entry_dict_update_loop ?_;rw [Around.under_plainId F.plain_dict_update_loop _];unfold Builtin.«dict.update.loop»;show wpAny _ A.in1 (pyNext (.ref z) >>= _) _ _ s;refine wpAny_bind (xP p j L l I hx hy fun O T za f hTd P=>?_);have kp1:∀b o,n.get? b=some o->O.get? b=some o:=fun b o e=>P b o (fun m=>H b o e (by simp only [av,ey,ee] at m ⊢;grind)) (S b o e);have hd1:O.DictOf t d a:=⟨od,V,W,P _ _ dz L,hdr⟩;show wpAny _ A.in1 (holding [Value.ref T] _ >>= _) _ _ _;apply wpAny_bind;apply wpAny_holding;apply wpAny_bind;apply wpAny_tryCatch;unfold Builtin.Dict.pairItems;refine wpAny_bind (kh (T:="tuple") ⟨_,f,rfl⟩ ?_);rw [if_pos (by decide)];refine wpAny_bind (wpAny_seqItems (show O.get? T=some _ from f) rfl (wpAny_pure ?_));show wpAny _ A.in1 (holding [B,v] (dictSet d B v)) _ _ _;refine wpAny_holding ?_;refine wpAny_dictSet_pairs (s:={ s with heap:=O }) hk hd1 (fun h2 D M=>?_) (by simp at U;lia);have hnk:k ∉ a.map (·.1):=by intro hm;rw [List.map_append,List.nodup_append] at J;exact J.2.2 _ hm _ (by simp) rfl
   have Z:stored a k v=a++[(k,v)]:=by unfold stored;rw [if_neg];intro C;obtain⟨x,hx1,hx2⟩:=pM.mp C;exact hnk (cu.mpr ⟨x,hx1,of_decide_eq_true hx2⟩)
   rw [Z] at D;refine wpAny_pure ⟨plainId_quiet F.plain_dict_update_loop _,?_⟩;have kp2:∀b o,n.get? b=some o->h2.get? b=some o:=fun b o e=>M.extBut _ _ (fun q=>H b o e (by simp [q])) (kp1 b o e);have e1:a++(k,v)::cj=(a++[(k,v)])++cj:=by simp
   rw [e1] at J U h;exact ih (i+1) (a++[(k,v)]) { s with heap:=h2,toks:=s.toks+1 } kp2 (za.but p M) D (X ▸ Y ▸ hps) J U (by simp at hi;lia) fun u t' k1 k2=>h u t' k1 k2
end
section
variable {prog:Program}{w:World}{K:Type} [DecidableEq K] {t:KeyKind prog w K}{A:Around}{E:VP}{s:Shared}
theorem tY (l:s.heap.IsList n I) (e:s.heap.IsTuple q M)
  (h:∀x i a TI TO z,(∀b o,s.heap.get? b=some o->x.get? b=some o)->s.heap.objs.size≤i->i < a->a < TI->TI < TO->TO < z->x.IsListIter i n 0->x.IsTupleIter a q 0->eF x TI (.ref i) (.ref a)->eF x TO .none .none ->
   fL x z TI TO .none (.bool false)->Q (.ref z) { s with heap:=x }):wpAny (model prog w) A (call (.type "zip") [.ref n,.ref q]) Q E s:=by
 refine callType_new F.called_zip (by decide) (F.typeCall_zip_2 _ _) (F.newCall_zip_2 _ _) (fun j=>F.args_object_init_3 j _ _) F.entry_zip_new (xM n q I M) ⟨l,e,fun x i a TI TO z k c m r t p v d u g f=>?_⟩;show _/\_;exact⟨⟨_,f,rfl⟩,h x i a TI TO z k c m r t p v d u g f⟩
theorem oP {x:Heap} (hh:A.handled=none) (k0:∀b o,x.get? b=some o->s.heap.get? b=some o) (j:x.IsList l1 xs) (y:x.IsTuple l2 ys)
  (u:x.objs.size≤I) (P:I < M) (B:M < TI) (S:TI < TO) (g:TO < z) (b1:s.heap.IsListIter I l1 0) (b2:s.heap.IsTupleIter M l2 0) (b3:eF s.heap TI (.ref I) (.ref M)) (b4:eF s.heap TO .none .none) (i:fL s.heap z TI TO .none (.bool false))
  (hp:ZipsAt t xs.toList ys.toList C) (hn:(C.map (·.1)).Nodup) (hz:C.length≤sizeLine) (hi:C.length=xs.size)
  (h:∀f R,(∀b o,x.get? b=some o->f.get? b=some o)->f.DictOf t s.heap.objs.size C->Q (.ref s.heap.objs.size) { s with heap:=f,toks:=R }) :
  wpAny (model prog w) A (call (.type "dict") [.ref z]) Q E s:=by
 have fresh:(s.heap.push { cls:=.type "dict",data:=.dict #[] }).DictOf t s.heap.objs.size []:=.new s.heap;have d:∀b o,s.heap.get? b=some o->(s.heap.push { cls:=.type "dict",data:=.dict #[] }).get? b=some o:=fun b o=>Heap.get?_push_of_some _;have k:z < s.heap.objs.size:=Heap.lt_size i;have H:=kt_code_dict_new (prog:=prog) (w:=w) (A:=A.in1) (E:=E) (s:=s) (Value.ref z) (Q₁:=fun v z=>v=.ref s.heap.objs.size/\z={ s with heap:=s.heap.push { cls:=.type "dict",data:=.dict #[] } }) ⟨rfl,rfl⟩;apply callType_codes F.kt_called_dict (F.kt_typeCall_dict_1 (.ref z)) F.entry_dict_init H;rintro _ _ ⟨e,e'⟩;subst e e';generalize s.heap.push { cls:=.type "dict",data:=.dict #[] }=h1 at fresh d;refine⟨fresh.typeIs,F.args_dict_init_2 (.ref s.heap.objs.size) (.ref z),?_⟩;unfold Builtin.«dict.__init__» Builtin.Dict.selfAndRest;apply wpAny_bind;apply wpAny_bind;apply wpAny_notOrdered_dict fresh.typeIs;apply wpAny_pure;show wpAny _ _ (Builtin.Dict.updateFrom "dict.__init__" s.heap.objs.size (.ref z) [] .none) _ _ _;unfold Builtin.Dict.updateFrom;refine wpAny_bind (kh (T:="zip") ⟨_,d _ _ i,rfl⟩ ?_);rw [if_pos (by decide)];refine wpAny_bind (wz (d _ _ i) hh fun Z tk k2=>?_);rw [if_pos (by rfl)];refine wpAny_bind (wpAny_rule ?_);have q:∀b o,s.heap.get? b=some o->Z.get? b=some o:=fun b o e=>k2 b o (d b o e);have G:Z.DictOf t s.heap.objs.size []:=by obtain⟨o,N,ep,ho,r⟩:=fresh;exact⟨o,N,ep,k2 _ _ ho,r⟩
 refine wpAny_bind (wpAny_pyIter_zip (z:=z) (TI:=TI) (TO:=TO) (f0:=.none) (q _ _ i) ?_);refine wpAny_pure ⟨plainId_quiet F.plain_dict_update_loop _,?_⟩;have L:l1 < x.objs.size:=by obtain⟨o,e,_⟩:=j;exact Heap.lt_size e
 have O:l2 < x.objs.size:=by obtain⟨o,e,_⟩:=y;exact Heap.lt_size e
 have n:∀{a b c:Nat},a < b->b < c->a < c:=fun h f=>kT h f;have J:=n P B;have U:=n J S;have D:=n U g;have V:=n D k;have W:=n B S;have X:=n W g;have c7:=n X k;have Y:=n S g;have c9:=n Y k;have ca:=n g k;have low:∀{l c:Nat},l < x.objs.size->x.objs.size≤c->l≠c:=fun h f=>bX (cg h f);have ge:∀c ∈ [s.heap.objs.size,z,TI,TO,I,M],x.objs.size≤c:=fun c K=>by
  simp only [av,ey,ee] at K;rcases K with rfl | rfl | rfl | rfl | rfl | rfl
  .exact aQ u (h7 V)
  .exact aQ u (h7 D)
  .exact aQ u (h7 J)
  .exact aQ u (h7 U)
  .exact u
  .exact aQ u (h7 P)
 have p:ZAp s.heap.objs.size z TI TO I M l1 l2:=by refine⟨?_,fun m=>low L (ge _ m) rfl,fun m=>low O (ge _ m) rfl⟩;simp only [List.nodup_cons,av,ey,ee,not_or,List.nodup_nil,not_false_eq_true,and_true];exact⟨⟨cD k,cD c9,cD ca,cD V,cD c7⟩,⟨cD Y,cD g,cD D,cD X⟩,⟨bX S,cD J,cD B⟩,⟨cD U,cD W⟩,bX P⟩
 refine u1 (A:=A.in1) (t:=t) (n:=x) hh p (fun c K=>?_) j y C 0 [] _ (fun b o e=>q b o (k0 b o e)) ⟨q _ _ b3,?_,?_,.inl ⟨rfl,q _ _ i,q _ _ b4⟩⟩ G (by simpa using hp) (by simpa using hn) (by simpa using hz) (by lia) fun f R q1 q2=>?_
 .cases e:x.get? c with
  | none=>rfl
  | some o=>exact absurd rfl (low (Heap.lt_size e) (ge c K))
 .obtain⟨o,e,r⟩:=b1;exact⟨o,q _ _ e,r⟩
 .obtain⟨o,e,r⟩:=b2;exact⟨o,q _ _ e,r⟩
 .exact⟨rfl,h f R q1 q2⟩
end
end PySem
namespace Ev
open PySem PySem.Spec PyProof.Rows L2
noncomputable def qR (Y fb:EV):EE:=fun L S=>aH (Y L S) fun x a=>aH (fb L a) fun y h=>match x,y with
 | .lst k,.tup v=>match ck k with
  | some B=>if (B.Nodup/\few k=true/\B.length≤v.length) then some (.ref h.length,h++[.dct B ((v.take B.length).map .p)]) else none
  | none=>none
 | _,_=>none
theorem vk:∀{B:List bC}{s i:LV}{x:List V},aI (B.map kV) s->aI x i->B.length≤x.length->ZipsAt (bJ g w) s i (B.zip i)/\L2.KV (B.zip x) (B.zip i)
 | [],_,i,x,h,_,_=>by cases h;exact⟨.nil,.nil⟩
 | k::B,_,_,[],h,_,l=>absurd l (by simp)
 | k::B,_,_,y::x,h,e,l=>by
  cases h with
  | cons r t=>
   cases e with
   | cons n f=>obtain⟨a,b⟩:=vk (g:=g) (w:=w) t f (by simpa using l);exact⟨.cons (kz r) a,.cons ⟨rfl,n⟩ b⟩
theorem lc:∀{xs:List L}{ys:List n},xs.length≤ys.length->(xs.zip ys).map (·.1)=xs/\(xs.zip ys).map (·.2)=ys.take xs.length
 | [],ys,_=>by simp
 | x::xs,[],h=>absurd h (by simp)
 | x::xs,y::ys,h=>by obtain⟨a,b⟩:=lc (xs:=xs) (ys:=ys) (by simpa using h);simp [a,b]
section
variable {X:Cx}{a b:Expr}{Y fb:EV}{p G J U:Pos}
theorem Cu (hc:X.calm=true) (gd:Gl X "dict") (md:X.mg "dict"=none) (gz:Gl X "zip") (mz:X.mg "zip"=none) (ha:PE X a (tV X.K Y)) (hb:PE X b (tV X.K fb)) (hs:starEach [a,b] X.env=[(false,eval a X.env),(false,eval b X.env)]) (R:starEach [b] X.env=[(false,eval b X.env)]) (hz:bootBuiltins "zip"=some (.type "zip")) :
  PE X (.Call (.Name "dict" p) [.Call (.Name "zip" G) [a,b] [] U] [] J) (tE X.K (qR Y fb)):=by
 intro pins s σ H Q I ⟨F,m,L,S,d,S',r,l,q,k⟩;obtain⟨x,S1,e1,q⟩:=af q;obtain⟨y,S2,e2,q⟩:=af q;have hh:X.A.handled=none:=I.ok.hd hc;refine kX (i9 I gd md PyProof.Rows.boot_dict ?_ (by decide) (by decide));refine lb (Calls.spliced_cons ?_) rfl rfl;refine kX (i9 I gz mz hz ?_ (by decide) (by decide));refine lb ?_ (by rw [hs,R]) (by rw [R];rfl);rw [hs];refine Calls.spliced_cons (cC (ha pins s σ H (fun v f=>∃e K,Stp F m H e K f/\Rel X.K e f K S1/\RP X.K e f x v) I ⟨F,m,L,S,x,S1,r,l,e1,fun v e K f s1 r1 p1=>⟨e,K,s1,r1,p1⟩⟩) fun u s1 ⟨v,f,I1,ru,e,K,W,r1,p1⟩=>
  Calls.spliced_cons (cC (hb pins s1 σ f (fun v A=>∃n C,Stp e K f n C A/\Rel X.K n A C S2/\RP X.K n A y v) I1 ⟨e,K,L,S1,y,S2,r1,l.mono W,e2,fun v n C A D r2 G=>⟨n,C,D,r2,G⟩⟩) fun u2 D ⟨v2,A,E,ru2,n,C,Z,r2,G⟩=>jX ?_))
 cases x with
 | lst ks=>
  cases y with
  | tup vs=>
   dsimp only at q;cases ek:ck ks with
   | none=>rw [ek] at q;cases q
   | some B=>
    rw [ek] at q;dsimp only at q;split at q
    .rename_i c;cases q;obtain⟨ax,xs,rfl,hq,rp⟩:=RP.mono Z p1;obtain⟨ay,ys,rfl,ta,rq⟩:=G;cases (show u=Value.ref ax from ru);cases (show u2=Value.ref ay from ru2);obtain⟨z1,T,n1,rx,O,ex⟩:=E.lstM hq.2;obtain⟨i,ry,V,hzy⟩:=E.tuple ta.sq;have exs:=hR ek rp;subst exs;have j:B.length≤ys.length:=by rw [<- rq.length];exact c.2.2
     obtain⟨za,zk⟩:=vk (g:=X.prog) (w:=X.w) rx ry j;have hl2:B.length≤i.length:=by rw [<- ry.length];exact j
     obtain⟨zf1,zf2⟩:=lc (xs:=B) (ys:=ys) j;obtain⟨P,_⟩:=lc (xs:=B) (ys:=i) hl2;have M:(B.zip i).length=T.toArray.size:=by have:=congrArg List.length P;rw [bu] at this;rw [this,List.size_toArray,<- O,bu]
     have hkz:(B.zip i).length≤sizeLine:=by rw [M,List.size_toArray,<- O];exact z1
     have N:D.heap.IsList ax T.toArray:=⟨_,ex,rfl,n1,rfl⟩;refine tY N V fun h i1 i2 TI TO z k0 a1 a2 a3 a4 a5 b1 b2 b3 b4 b5=>jX ?_;refine oP (t:=bJ X.prog X.w) (s:={ D with heap:=h }) (x:=D.heap) hh k0 N V a1 a2 a3 a4 a5 b1 b2 b3 b4 b5 (by simpa using za) (by rw [P];exact c.1) hkz M fun h'' t' k1 dd=>?_;have g:D.heap.objs.size≤h.objs.size:=h7 (kY a1 (kT a2 (kT a3 (kT a4 (kT a5 (Heap.lt_size b5))))));have hf:A h.objs.size=none:=E.hok.fresh g;have hsm:(h.objs.size == sysModules)=false:=by have:=E.big;simp only [jZ];exact cD (cg this g)
     have hkv:(B.zip ys).length≤sizeLine:=by have e1:=congrArg List.length zf1;have e2:=congrArg List.length P;rw [bu] at e1 e2;lia
     have I3:=E.laid (a:=h.objs.size) (o:=.dK (B.zip ys)) (t':=t') k1 g ⟨hkv,hsm,_,zk,dd⟩;refine⟨.ref h.objs.size,_,I3,rfl,k (.ref h.objs.size) n (C++[h.objs.size]) _ (W.trans (Z.trans (fZ hf))) (r2.own hf ⟨_,aK,zf1,?_⟩) ⟨h.objs.size,rfl,?_⟩⟩
     .rw [zf2,List.map_take];exact (dc.mono (fZ hf) (dc.ofP rq)).take _
     .rw [<- r2.len,fQ (Nat.le_refl _)];simp
    .cases q
  | _=>cases q
 | _=>cases y <;> cases q
end
end Ev
namespace Ev
open PySem PySem.Spec PyProof.Rows L2
noncomputable def pureOf (g:GF) (ps:List P):Option P:=match g (ps.map .p) [] with
 | some (d,S)=>(toP 9 d S).map (·.1)
 | none=>none
noncomputable def cI (p n:Nat) (b:ES):GF:=fun s S=>if s.length=p then match b (s.map some++List.replicate (n-s.length) none) S with
 | some (.rt d,_,h)=>some (d,h)
 | some (.nx,_,h)=>some (.p .non,h)
 | _=>none else none
variable {K:FG}{F:Aa}{H:Hp}
theorem Rel.nil (f:∀a,F a->H a≠none):Rel K F H [] []:=⟨rfl,by simp,by simp,by simp,by simp,f⟩
theorem ng (h:Hz K (pureOf g) A H s b):oj K g A H s b:=by
 obtain⟨F,n,d,m,r,q,k⟩:=h;unfold pureOf at q;cases e:g (n.map .p) [] with
 | none=>rw [e] at q;cases q
 | some z=>
  obtain⟨a,S⟩:=z;rw [e] at q;dsimp only at q;cases x:toP 9 a S with
  | none=>rw [x] at q;cases q
  | some o=>obtain⟨p,t⟩:=o;rw [x] at q;cases q;refine⟨F,[],n.map .p,[],a,S,.nil m,dc.ofP r,e,fun v P B c l u j=>?_⟩;obtain⟨f,y,i,_,w⟩:=na 9 x u j;exact k v f c ((l.trans y).toGrow i.ft) w
theorem FnOk.pure (G:FnOk s w K b base pG k f d ps (oj K g)):FnOk s w K b base pG k f d ps (Hz K (pureOf g)):=
 FnOk.imp G fun _ _ _ _ h=>ng h
theorem dc.toSt (r:dc K F H m s k):RL K F H m (L2.start N k) (s.map some++List.replicate (N.length-s.length) none):=by
 have l:=r.length;refine⟨by unfold L2.start;simp [l],fun i d e=>?_⟩;by_cases h:i < s.length
 .rw [List.getElem?_append_left (by simpa using h),List.getElem?_map] at e;cases q:s[i]? with
  | none=>rw [q] at e;cases e
  | some v=>rw [q] at e;cases e;obtain⟨x,a,p⟩:=r.get q;refine⟨x,?_,p⟩;unfold L2.start;rw [List.getElem?_append_left (by simpa [<- l] using h),List.getElem?_map,a];rfl
 .rw [fQ (by simpa using h),ue] at e;split at e <;> cases e
theorem D7 {P:Program}{w:World}{K:FG}{i:SV}{base:Heap}{x u:Str}{st:Stmt}{f:Addr}{p:FuncData}{N ps:LS}{k:Nat}{b:ES} (F:Fun K x u st f p) (S:FnScope N ps (ai st))
  (G:∀(c:Value) (A:Around) (o:List Env) (s:Shared) (H:Hp) (E:XK),Room k (A.deeper (envOfC u (ai st) s.heap.objs.size f c)) ->
   mw (tN pG P w K i base N u (ai st) f c A o s H E).nox (aq st) (kc K b)):FnOk P w K i base pG (k+1) f p ps (oj K (cI ps.length N.length b)):=by
 refine F.ok S (fun M H Q E h=>?_) (fun c A o s H M Q E I h=>⟨_,G c A o s H E I,?_⟩)
 .obtain⟨F,m,a,S,d,C,y,r,q,k⟩:=h;rw [<- r.length];unfold cI at q;split at q
  .assumption
  .cases q
 .obtain⟨F,m,a,S,d,C,y,r,q,k⟩:=h;unfold cI at q;split at q
  .cases e:b (a.map some++List.replicate (N.length-a.length) none) S with
   | none=>rw [e] at q;cases q
   | some z=>
    obtain⟨l,L,D⟩:=z;rw [e] at q;refine⟨F,m,_,S,l,L,D,y,r.toSt,e,fun O n g t B j T=>?_⟩;cases l with
    | nx=>cases q;exact k .non n g t B j rfl
    | bk=>cases q
    | ct=>cases q
    | rt R=>intro v J;cases q;exact k v n g t B j J
  .cases q
theorem zD:FnOk g w K c base pG k f b ps (oj K fun _ _=>none):=by
 have n:∀v H Q E,¬oj K (fun _ _=>none) v H Q E:=fun v H Q E h=>by obtain⟨F,m,e,S,d,x,_,_,q,_⟩:=h;cases q
 exact⟨fun v H Q E h=>absurd h (n v H Q E),fun A o s H a u v Q E _ _ _ _ h=>absurd h (n v H Q E)⟩
structure Tr where
 v:Option EV:=none
 e:Option EE:=none
 b:Option EB:=none
 w:Option EB:=none
noncomputable def Tr.ofV (f:Option EV):Tr:=⟨f,f.map eV,f.map fun g=>bT (eV g),f.map bV⟩
noncomputable def Tr.ofC (f:Option EV):Tr:=⟨f,f.map eV,f.map bV,f.map bV⟩
noncomputable def Tr.ofE (f:Option EE):Tr:=⟨f.map vE,f,f.map bT,f.map fun g=>bV (vE g)⟩
noncomputable def Tr.ofB (b w:Option EB):Tr:=⟨w.map vB,w.map fun g=>eV (vB g),b,w⟩
structure Cn where
 N:LS
 own:LS
 deep:LS
 refs:LS
 ks:List (Str×NameKind)
 F:Str->Option GF
 G:Str->Option P
 A:Str->Str->Bool
 M:Str->Str->Option GF
 I:Str->Option GF
noncomputable def kA:LS->Str->Option Nat
 | [],_=>none
 | y::r,x=>if y=x then some 0 else (kA r x).map (·+1)
theorem ny:∀{N:LS}{x:Str}{i:Nat},kA N x=some i->N[i]? = some x
 | [],_,_,h=>by cases h
 | y::r,x,i,h=>by
  unfold kA at h;split at h
  .rename_i e;cases h;simp [e]
  .cases q:kA r x with
   | none=>rw [q] at h;cases h
   | some j=>rw [q] at h;cases h;simpa using ny q
theorem lQ:∀{N:LS}{x:Str}{i:Nat},N.Nodup->N[i]? = some x->kA N x=some i
 | [],_,_,_,h=>by simp at h
 | y::r,x,0,_,h=>by
  have:y=x:=by simpa using h
  unfold kA;rw [if_pos this]
 | y::r,x,i+1,d,h=>by
  have a:r[i]? = some x:=by simpa using h
  have n:¬y=x:=fun e=>by subst e;exact (List.nodup_cons.mp d).1 (bY a)
  unfold kA;rw [if_neg n,lQ (List.nodup_cons.mp d).2 a];rfl
noncomputable def cZ (s:List (Str×NameKind)) (x:Str) (l:List NameKind):Bool:=match s.lookup x with
 | some k=>l.contains k
 | none=>false
noncomputable def iu (x:Str):Bool:=!(x == ("__debug__":Str)) && !(x == ("__classdict__":Str))
noncomputable def Kv:Operator->Option (P->P->Option P)
 | .Add=>some aC
 | .Sub=>some tL
 | .Mult=>some dq
 | .FloorDiv=>some aP
 | .Mod=>some bb
 | .Pow=>some By
 | _=>none
noncomputable def Hc:CmpOp->Option (P->P->Option P)
 | .Lt=>some Ah
 | .LtE=>some G8
 | .Gt=>some Cf
 | .GtE=>some G9
 | _=>none
noncomputable def Hb:CmpOp->Option (D->D->aF->Option P)
 | .Eq=>some eC
 | .NotEq=>some ou
 | .In=>some Af
 | .NotIn=>some jd
 | .Is=>some rW
 | .IsNot=>some cW
 | _=>none
noncomputable def og:List (Option EV)->Option fN
 | []=>some aW
 | a::r=>a.bind fun f=>(og r).map fun g=>aO f g
noncomputable def wK:List (Option EE)->Option oa
 | []=>some aY
 | a::r=>a.bind fun f=>(wK r).map fun g=>ab f g
noncomputable def r9 (o:BoolOp):List (Option EB)->Option EB
 | []=>none
 | [a]=>a
 | a::r=>a.bind fun f=>(r9 o r).map fun g=>match o with | .And=>gi f g | .Or=>wv f g
noncomputable def Fh (o:Option (Option EV)):Option EO:=match o with
 | none=>some gN
 | some a=>a.map cy
noncomputable def zd (t:Str):Option String:=if t=("bool":Str) then some "bool" else none
noncomputable def zZ (f:Str):Option (List P->Option P):=
 if f=("int":Str) then some bE else if f=("list":Str) then some lI else if f=("tuple":Str) then some d5 else if f=("abs":Str) then some lY else if f=("all":Str) then some kI else if f=("any":Str) then some hZ else none
noncomputable def BJ:LS:=["len","isinstance","int","bool","tuple","list","str","max","min","dict","range","abs","enumerate","sorted","all","any","sum","set","zip"]
noncomputable def oZ (a s:List (Str×NameKind)):List (Str×NameKind):=a.map fun (n,k)=>if (k == .free && s.lookup n == some .cell) then (n,.cell) else (n,k)
noncomputable def vc (u:Cn) (j:Scope) (Y:LS) (y:List Nat) (n:Nat):Bool:=
 decide (j.kind=.function) && j.names.all (fun x=>x.2 != .cell) && j.names.all (fun x=>x.2 != .local || j.names.lookup x.1 == some .local)
  && j.names.all (fun x=>x.2 != .free || (j.names.lookup x.1 == some .free && (u.ks.lookup x.1 == some .cell || u.ks.lookup x.1 == some .free)))
  && decide (u.N=Y.take u.N.length) && decide (Y.length=u.N.length+n)
  && j.names.all (fun x=>x.2 != .local || match kA u.N x.1 with | some i=>y.contains i | none=>true)
noncomputable def sR (u:Cn) (f g:Str):Bool:=decide (f=g) && cZ u.ks f [.globalImplicit]
noncomputable def zf:Expr->Bool
 | .Tuple ..=>true
 | _=>false
noncomputable def yZ (u:Cn) (f:Str) (a:Expr):Option Expr:=match a with
 | .Call (.Name r _) [b] [] _=>if (decide (f=("list":Str)) && sR u r "range")=true then some b else none
 | _=>none
noncomputable def uk (u:Cn) (f:Str) (a:Expr):Option (Expr×Expr):=match a with
 | .Call (.Name r _) [b,c] [] _=>if (decide (f=("dict":Str)) && sR u r "zip")=true then some (b,c) else none
 | _=>none
noncomputable def x2 (u:Cn) (T:Expr->Tr) (O e:Expr):Option fN:=match e with
 | .Call (.Name f _) r [] _=>if sR u f "range"=true then match r with
   | [a]=>(T a).v.map g0
   | [a,b]=>(T a).v.bind fun x=>(T b).v.map fun y=>Bl x y
   | _=>none
  else if sR u f "enumerate"=true then match r with
   | [a]=>if zf O=true then (T a).v.map v0 else none
   | _=>none
  else (T e).v.map iR
 | .Set ..=>none
 | _=>(T e).v.map iR
noncomputable def Az (N:LS) (s:List (Str×NameKind)) (k:List NameKind):Expr->Option iK
 | .Name x _=>if cZ s x k=true then (kA N x).map ak else none
 | _=>none
noncomputable def x0 (N:LS) (s:List (Str×NameKind)) (k:List NameKind):Ab->Option (List iK)
 | []=>some []
 | e::r=>(Az N s k e).bind fun g=>(x0 N s k r).map fun h=>g::h
noncomputable def xY (N:LS) (s:List (Str×NameKind)) (k:List NameKind):Expr->Option iK
 | .Tuple B _ _=>(x0 N s k B).map bn
 | e=>Az N s k e
noncomputable def Gg:Expr->LS
 | .Name x _=>[x]
 | _=>[]
noncomputable def gB:Expr->LS
 | .Tuple B _ _=>B.flatMap Gg
 | e=>Gg e
noncomputable def ms (N:LS):LS->LS
 | []=>[]
 | t::r=>if (N.contains t || (ms N r).contains t)=true then ms N r else t::ms N r
noncomputable def JW (N:LS) (y:LS):List Nat:=y.filterMap fun t=>kA N t
noncomputable def m_ (u:Cn) (T:Cn->Expr->Tr) (l O iter:Expr) (i:Ab) (j:Scope):Option EV:=
 if (vc u j (u.N++ms u.N (gB O)) (JW u.N (gB O)) (ms u.N (gB O)).length && decide (u.N++ms u.N (gB O)).Nodup)=true then
  (x2 u (T u) O iter).bind fun t=>(xY (u.N++ms u.N (gB O)) (oZ j.names u.ks) [.local] O).bind fun g=>
   (match i with | []=>some dZ | [c]=>(T ⟨u.N++ms u.N (gB O),u.own.filter (fun x=>!(gB O).contains x),[],u.refs,oZ j.names u.ks,u.F,u.G,u.A,u.M,u.I⟩ c).b | _=>none).bind fun c=>
   (T ⟨u.N++ms u.N (gB O),u.own.filter (fun x=>!(gB O).contains x),[],u.refs,oZ j.names u.ks,u.F,u.G,u.A,u.M,u.I⟩ l).v.map fun e=>aU t (JW u.N (gB O)) (ms u.N (gB O)).length g c e
 else none
noncomputable def nB (u:Cn):Nat->Expr->Bool
 | 0,_=>false
 | _,.Name x _=>u.own.contains x
 | n+1,.Subscript a _ _=>nB u n a
 | n+1,.Attribute a _ _=>nB u n a
 | n+1,.Call (.Attribute o m _) (_::_) [] _=>decide (m=("setdefault":Str)) && nB u n o
 | _,_=>false
noncomputable def sg:Expr->Option (Ab)
 | .Tuple B _ _=>some B
 | _=>none
noncomputable def ye:Ab->Option Expr
 | [a,.List [] _]=>some a
 | _=>none
noncomputable def zj:Expr->Bool
 | .Name ..=>true
 | .Attribute ..=>true
 | .Subscript ..=>true
 | .Call (.Name ..) (_::_) [] _=>true
 | _=>false
noncomputable def CK (u:Cn) (o:Option EE) (os:Expr) (m:Str) (Q:List (Option EE)) (p c:Pos):Tr:=
 if (zj os && (p.endLine == c.line) && decide (Q.length < 29))=true then .ofE (o.bind fun x=>(wK Q).map fun a=>dm u.M x m a) else {}
noncomputable def Eu (u:Cn) (o:Expr) (m:Str) (n:Str) (a c:Pos):Bool:=decide (m=n) && nB u 4 o && (a.endLine == c.line)
noncomputable def tr (u:Cn):Nat->Expr->Tr
 | 0,_=>{}
 | n+1,e=>match e with
  | .Constant (.int i) _ _=>.ofV (some (vC (.int i)))
  | .Constant (.bool i) _ _=>.ofV (some (vC (.bl i)))
  | .Constant .none _ _=>.ofV (some (vC .non))
  | .Constant (.str i) _ _=>.ofV (some (vC (.str i)))
  | .Name x _=>if (cZ u.ks x [.local,.cell,.free] && iu x)=true then .ofE ((kA u.N x).map aa) else
    if (cZ u.ks x [.globalImplicit] && iu x)=true then .ofV ((u.G x).bind fun v=>if zm v=true then none else some (vC v)) else {}
  | .BinOp a s b _=>.ofV ((Kv s).bind fun g=>(tr u n a).v.bind fun x=>(tr u n b).v.map fun y=>ac g x y)
  | .UnaryOp .USub a _=>.ofV ((tr u n a).v.map (CC u5))
  | .UnaryOp .Not a _=>.ofB ((tr u n a).b.map mu) ((tr u n a).w.map mu)
  | .BoolOp s B _=>.ofB (r9 s (B.map fun x=>(tr u n x).b)) (r9 s (B.map fun x=>(tr u n x).w))
  | .Compare a [s] [b] _=>.ofC (match Hc s with
    | some g=>(tr u n a).v.bind fun x=>(tr u n b).v.map fun y=>ac g x y
    | none=>(Hb s).bind fun g=>(tr u n a).e.bind fun x=>(tr u n b).e.map fun y=>aE g x y)
  | .Compare a [s,S] [b,c] _=>.ofC ((Hc s).bind fun g=>(Hc S).bind fun K=>(tr u n a).v.bind fun x=>(tr u n b).v.bind fun y=>(tr u n c).v.map fun z=>lh g K x y z)
  | .IfExp c a b _=>{ Tr.ofV ((tr u n c).b.bind fun q=>(tr u n a).v.bind fun x=>(tr u n b).v.map fun y=>BV q x y) with b:=none }
  | .Tuple B _ _=>.ofV ((og (B.map fun x=>(tr u n x).v)).map aD)
  | .List B _=>.ofV ((og (B.map fun x=>(tr u n x).v)).map a_)
  | .Dict [] [] _=>{ e:=some lU,v:=some (vE lU) }
  | .Subscript a (.Slice lo w none _) _=>.ofV ((tr u n a).v.bind fun x=>(Fh (lo.map fun y=>(tr u n y).v)).bind fun y=>(Fh (w.map fun z=>(tr u n z).v)).map fun z=>im x y z)
  | .Subscript a (.Slice lo w (some st) _) _=>.ofV ((tr u n a).v.bind fun x=>(Fh (lo.map fun y=>(tr u n y).v)).bind fun y=>(Fh (w.map fun z=>(tr u n z).v)).bind fun z=>(tr u n st).v.map fun c=>Au x y z (cy c))
  | .Subscript a i _=>if nB u 4 a=true then (match sg i with
    | some B=>.ofE ((tr u n a).e.bind fun x=>(og (B.map fun z=>(tr u n z).v)).map fun y=>uW x y)
    | none=>.ofE ((tr u n a).e.bind fun x=>(tr u n i).v.map fun y=>tf x y)) else .ofV ((tr u n a).v.bind fun x=>(tr u n i).v.map fun y=>ac ar x y)
  | .Call (.Name f _) r [] _=>if (cZ u.ks f [.globalImplicit] && iu f)=true then
    match u.I f with
    | some g=>match r with
     | []=>{}
     | _=>.ofE ((wK (r.map fun x=>(tr u n x).e)).map fun a=>nQ g f a)
    | none=>match u.F f with
    | some g=>match r with
     | []=>{}
     | _=>if u.refs.contains f=true then .ofV ((wK (r.map fun x=>(tr u n x).e)).map fun a=>b7 g a) else .ofV ((og (r.map fun x=>(tr u n x).v)).map fun a=>ah (pureOf g) a)
    | none=>match r with
     | []=>{}
     | [a]=>if f=("len":Str) then .ofV ((tr u n a).e.map dR) else if f=("sorted":Str) then .ofV ((tr u n a).e.map vq) else match yZ u f a with
      | some b=>.ofV ((tr u n b).v.map Er)
      | none=>match uk u f a with
       | some z=>.ofE ((tr u n z.1).v.bind fun x=>(tr u n z.2).v.map fun y=>qR x y)
       | none=>.ofV ((zZ f).bind fun g=>(og [(tr u n a).v]).map fun x=>ah g x)
     | [a,.Name t P]=>if f=("isinstance":Str) then (if cZ u.ks t [.globalImplicit]=true then (match zd t with | some T=>.ofV ((tr u n a).e.map fun x=>xU T x) | none=>{}) else {}) else {}
     | _=>{}
   else {}
  | .Call (.Attribute o m p) [a] [] h=>if Eu u o m "append" p h=true then .ofE ((tr u n o).e.bind fun x=>(tr u n a).e.map fun y=>bS x y) else
    if Eu u o m "extend" p h=true then .ofE ((tr u n o).e.bind fun x=>(tr u n a).v.map fun y=>dn x y) else
    if (decide (m=("index":Str)) && zj o && (p.endLine == h.line))=true then .ofV ((tr u n o).v.bind fun x=>(tr u n a).v.map fun y=>oe x y) else
    match sg a with
    | some B=>if Eu u o m "get" p h=true then .ofE ((tr u n o).e.bind fun x=>(og (B.map fun z=>(tr u n z).v)).map fun y=>tj x y) else CK u (tr u n o).e o m [(tr u n a).e] p h
    | none=>CK u (tr u n o).e o m [(tr u n a).e] p h
  | .Call (.Attribute (.Name d k) m p) [a,b] [] h=>if (decide (m=("get":Str)) && (p.endLine == h.line))=true then .ofV ((tr u n (.Name d k)).v.bind fun x=>(tr u n a).v.bind fun y=>(tr u n b).v.map fun z=>vr x y z) else CK u (tr u n (.Name d k)).e (.Name d k) m [(tr u n a).e,(tr u n b).e] p h
  | .Call (.Attribute o m p) r [] h=>match ye r with
   | some a=>if Eu u o m "setdefault" p h=true then .ofE ((tr u n o).e.bind fun x=>(tr u n a).v.map fun y=>mO x y (cS aW)) else CK u (tr u n o).e o m (r.map fun x=>(tr u n x).e) p h
   | none=>CK u (tr u n o).e o m (r.map fun x=>(tr u n x).e) p h
  | .Attribute o f _=>if zj o=true then .ofE ((tr u n o).e.map fun x=>dD u.A x f) else {}
  | .ListComp l [⟨O,iter,H,0⟩] j _=>.ofV (m_ u (fun F x=>tr F n x) l O iter H j)
  | _=>{}
noncomputable def Fi (u:Cn) (n _k:Nat) (e:Expr):Option EE:=match e with
 | .Call (.Name f _) r [] _=>if (cZ u.ks f [.globalImplicit] && iu f && !r.isEmpty)=true then
   match u.F f with
   | some g=>(wK (r.map fun x=>(tr u n x).e)).map fun a=>fR g a
   | none=>(tr u n e).e
  else (tr u n e).e
 | _=>(tr u n e).e
structure XOk (Γ:Cn) (X:Cx):Prop where
 hN:X.N=Γ.N
 nd:X.N.Nodup
 ks:X.env.scope.names=Γ.ks
 kd:X.env.scope.kind=.function
 calm:X.calm=true
 hu:X.A.units+64 < cLine
 fns:∀x g,Γ.F x=some g->∃k f fd ps,FnOk X.prog X.w X.K X.mg X.base pG k f fd ps (oj X.K g)/\Room k X.A/\X.mg x=some (.ref f)/\PySem.W.keepIn X.K (.ref f)=true/\Binds X.K fd ps []
 blt:∀x ∈ BJ,X.mg x=none
 glb:∀x v,Γ.G x=some v->mQ X.w X.K X.mg x v
 attrs:Iq X.K Γ.A
 meths:Io X Γ.M
 mks:∀c g,Γ.I c=some g->∃C k f fd ps,iP X.K c C/\X.mg c=some (.ref C)/\Mk X.K C f/\FnOk X.prog X.w X.K X.mg X.base pG k f fd ps (oj X.K g)/\Room (k+1) X.A/\Binds X.K fd ps []
structure Good (X:Cx) (ex:Expr) (t:Tr):Prop where
 v:∀f,t.v=some f->PE X ex (tV X.K f)
 e:∀f,t.e=some f->PE X ex (tE X.K f)
 b:∀f,t.b=some f->PT X ex (tQ X.K f)
 w:∀f,t.w=some f->PE X ex (tV X.K (vB f))
section
variable {X:Cx}{e:Expr}
theorem Good.no:Good X e {}:=⟨fun _ h=>(by cases h),fun _ h=>(by cases h),fun _ h=>(by cases h),fun _ h=>(by cases h)⟩
noncomputable def Ac (e:Expr):Prop:=∀J w,isTrue e J w=(do let v <- w;standAt e.pos;holding [v] (truthy v))
theorem Good.ofV {t:Option EV} (h:∀f,t=some f->PE X e (tV X.K f)) (p:Ac e):Good X e (.ofV t) where
 v:=h
 e:=fun f q=>by
  cases t with
  | none=>cases q
  | some g=>cases q;exact Ep (h _ rfl)
 b:=fun f q=>by
  cases t with
  | none=>cases q
  | some g=>cases q;exact yT (Ep (h _ rfl)) (p _)
 w:=fun f q=>by
  cases t with
  | none=>cases q
  | some g=>cases q;exact vl (h _ rfl)
theorem Good.ofC {t:Option EV} (h:∀f,t=some f->PE X e (tV X.K f)) (x:∀f,t=some f->PT X e (tQ X.K (bV f))):Good X e (.ofC t) where
 v:=h
 e:=fun f q=>by
  cases t with
  | none=>cases q
  | some g=>cases q;exact Ep (h _ rfl)
 b:=fun f q=>by
  cases t with
  | none=>cases q
  | some g=>cases q;exact x _ rfl
 w:=fun f q=>by
  cases t with
  | none=>cases q
  | some g=>cases q;exact vl (h _ rfl)
theorem Good.ofE {t:Option EE} (h:∀f,t=some f->PE X e (tE X.K f)) (p:Ac e):Good X e (.ofE t) where
 v:=fun f q=>by
  cases t with
  | none=>cases q
  | some g=>cases q;exact IF (h _ rfl)
 e:=h
 b:=fun f q=>by
  cases t with
  | none=>cases q
  | some g=>cases q;exact yT (h _ rfl) (p _)
 w:=fun f q=>by
  cases t with
  | none=>cases q
  | some g=>cases q;exact vl (IF (h _ rfl))
theorem Good.ofB {b w:Option EB} (h:∀f,b=some f->PT X e (tQ X.K f)) (hw:∀f,w=some f->PE X e (tV X.K (vB f))):Good X e (.ofB b w) where
 v:=fun f q=>by
  cases w with
  | none=>cases q
  | some g=>cases q;exact hw _ rfl
 e:=fun f q=>by
  cases w with
  | none=>cases q
  | some g=>cases q;exact Ep (hw _ rfl)
 b:=h
 w:=hw
end
theorem al {p e:Type}{x:Option p}{f:p->Option e}{r:e} (h:x.bind f=some r):∃a,x=some a/\f a=some r:=by
 cases x with
 | none=>cases h
 | some a=>exact⟨a,rfl,h⟩
theorem am {p e:Type}{x:Option p}{f:p->e}{r:e} (h:x.map f=some r):∃a,x=some a/\r=f a:=by
 cases x with
 | none=>cases h
 | some a=>cases h;exact⟨a,rfl,rfl⟩
noncomputable def cY (e:Expr):Prop:=∀B J,starEach (e::B) J=(false,eval e J)::starEach B J
variable {u:Cn}{n:Nat}{e:Expr}
theorem bg (h:(tr u n e).v.isSome=true\/(tr u n e).e.isSome=true):cY e:=by
 intro B J;cases n with
 | zero=>rcases h with h | h <;> cases h
 | succ n=>cases e <;> first | rfl | (rcases h with h | h <;> cases h)
theorem nq (h:(tr u n e).v.isSome=true):kQ e:=by
 intro o i;cases n with
 | zero=>cases h
 | succ n=>cases e <;> first | rfl | cases h
variable {B:Ab}{J:Env}{E:Pos}
theorem iI (h:∀e ∈ B,cY e):(backTo E (starEach B J)).any (·.1)=false:=by
 induction B with
 | nil=>rfl
 | cons e B i=>
  rw [h e List.mem_cons_self B J];have:=i fun x a=>h x (aZ _ a)
  unfold backTo at this ⊢;rw [List.map_cons,e_,this];rfl
section
variable {u:Cn}{X:Cx} (h:XOk u X)
include h
theorem XOk.gl (q:cZ u.ks x [.globalImplicit]=true):Gl X x:=by
 unfold Gl Env.kindOf;rw [h.ks];unfold cZ at q;cases e:u.ks.lookup x with
 | none=>rw [e] at q;cases q
 | some k=>rw [e] at q;cases k <;> first | rfl | cases q
theorem XOk.vis (q:cZ u.ks x [.local,.cell,.free]=true):Ek X.env.scope x:=by
 unfold Ek;rw [h.ks];unfold cZ at q;cases e:u.ks.lookup x with
 | none=>rw [e] at q;cases q
 | some k=>rw [e] at q;cases k <;> first | exact .inl rfl | exact .inr (.inl rfl) | exact .inr (.inr rfl) | cases q
theorem XOk.loc (q:cZ u.ks x [.local,.cell]=true):L2.Loc X.env.scope x:=by
 unfold L2.Loc;rw [h.ks];unfold cZ at q;cases e:u.ks.lookup x with
 | none=>rw [e] at q;cases q
 | some k=>rw [e] at q;cases k <;> first | exact .inl rfl | exact .inr rfl | cases q
theorem XOk.local (q:cZ u.ks x [.local]=true):X.env.scope.names.lookup x=some .local:=by
 rw [h.ks];unfold cZ at q;cases e:u.ks.lookup x with
 | none=>rw [e] at q;cases q
 | some k=>rw [e] at q;cases k <;> first | rfl | cases q
omit h in
theorem fg (q:iu x=true):(x == ("__debug__":Str))=false/\(x == ("__classdict__":Str))=false:=by unfold iu at q;rw [Bool.and_eq_true] at q;exact⟨by simpa using q.1,by simpa using q.2⟩
theorem XOk.get (q:kA u.N x=some i):X.N[i]? = some x:=by rw [h.hN];exact ny q
omit h in
theorem fX {u:Cn}{n:Nat}:∀{B:Ab}{s:fN},(∀e ∈ B,Good X e (tr u n e))->og (B.map fun x=>(tr u n x).v)=some s->PA X B (nc X.K s)/\∀e ∈ B,cY e
 | [],s,_,q=>by cases q;exact⟨Ej,fun _ z=>by cases z⟩
 | e::B,s,g,q=>by
  obtain⟨f,k,t⟩:=al q;obtain⟨r,p,rfl⟩:=am t;obtain⟨c,m⟩:=fX (fun x a=>g x (aZ _ a)) p;have k:(tr u n e).v=some f:=k;have b:cY e:=bg (.inl (by rw [k];rfl));refine⟨Ch ((g e List.mem_cons_self).v f k) c (b _ _),fun x a=>?_⟩;rcases av.mp a with a | a
  .subst a;exact b
  .exact m x a
omit h in
theorem kj {u:Cn}{n:Nat}:∀{B:Ab}{s:oa},(∀e ∈ B,Good X e (tr u n e))->wK (B.map fun x=>(tr u n x).e)=some s->PA X B (wL X.K s)/\∀e ∈ B,cY e
 | [],s,_,q=>by cases q;exact⟨G3,fun _ z=>by cases z⟩
 | e::B,s,g,q=>by
  obtain⟨f,k,t⟩:=al q;obtain⟨r,p,rfl⟩:=am t;obtain⟨c,m⟩:=kj (fun x a=>g x (aZ _ a)) p;have k:(tr u n e).e=some f:=k;have b:cY e:=bg (.inr (by rw [k];rfl));refine⟨D_ ((g e List.mem_cons_self).e f k) c (b _ _),fun x a=>?_⟩;rcases av.mp a with a | a
  .subst a;exact b
  .exact m x a
omit h in
theorem rY {o:BoolOp}{E:Pos}{u:Cn}{n:Nat}:∀{B:Ab}{f:EB},(∀e ∈ B,Good X e (tr u n e))->r9 o (B.map fun x=>(tr u n x).b)=some f->PW X (.BoolOp o B E) (tQ X.K f)
 | [],f,_,q=>by cases q
 | [a],f,g,q=>by
  cases o with
  | And=>exact EZ ((g a List.mem_cons_self).b f q)
  | Or=>exact Iz ((g a List.mem_cons_self).b f q)
 | a::b::B,f,g,q=>by
  obtain⟨x,s,c⟩:=al q;obtain⟨r,m,rfl⟩:=am c;have i:=rY (B:=b::B) (E:=E) (fun x k=>g x (aZ _ k)) m;cases o with
  | And=>exact ID ((g a List.mem_cons_self).b x s) i
  | Or=>exact KI ((g a List.mem_cons_self).b x s) i
omit h in
theorem rZ {o:BoolOp}{E:Pos}{u:Cn}{n:Nat}:∀{B:Ab}{f:EB},(∀e ∈ B,Good X e (tr u n e))->r9 o (B.map fun x=>(tr u n x).w)=some f->PE X (.BoolOp o B E) (tV X.K (vB f))
 | [],f,_,q=>by cases q
 | [a],f,g,q=>Fa ((g a List.mem_cons_self).w f q)
 | a::b::B,f,g,q=>by
  obtain⟨x,s,c⟩:=al q;obtain⟨r,m,rfl⟩:=am c;have i:=rZ (B:=b::B) (E:=E) (fun x k=>g x (aZ _ k)) m;cases o with
  | And=>exact IW ((g a List.mem_cons_self).w x s) i
  | Or=>exact KJ ((g a List.mem_cons_self).w x s) i
omit h in
theorem qh {u:Cn}{n:Nat}{o:Option Expr}{f:EO} (g:∀e,Good X e (tr u n e)) (q:Fh (o.map fun y=>(tr u n y).v)=some f):PO X o (tO X.K f):=by
 cases o with
 | none=>cases q;exact Dz
 | some e=>obtain⟨x,a,rfl⟩:=am (show ((tr u n e).v).map cy=some f from q);exact yO ((g e).v x a)
theorem Ef (q:Kv s=some g):mx X (binaryOp s) g:=by cases s <;> first | (cases q;exact Dv) | (cases q;exact F0) | (cases q;exact Du) | (cases q;exact A6) | (cases q;exact F7) | (cases q;exact F4) | cases q
omit h in
theorem lG (q:Hc s=some g):mx X (compareOp s) g:=by cases s <;> first | (cases q;exact Jy) | (cases q;exact Jz) | (cases q;exact JA) | (cases q;exact JB) | cases q
theorem wn (q:Hb s=some g):g9 X (compareOp s) (rE X.K g):=by cases s <;> first | (cases q;exact Gb h.hu) | (cases q;exact F5 h.hu) | (cases q;exact F_ h.hu) | (cases q;exact yL h.hu) | (cases q;exact F9) | (cases q;exact yM) | cases q
omit h in
theorem tS (b:Expr) (q:Hc s=some g):behindInMarks s b=false:=by cases s <;> first | exact DA b | cases q
omit h in
theorem vR (q:(tr u n b).e.isSome=true):behindInMarks s b=false:=by
 cases n with
 | zero=>cases q
 | succ n=>cases b <;> first | rfl | cases q
omit h in
theorem sK (q:(tr u n c).v.isSome=true):lastMarks [k,s] [b,c]=false:=by
 cases n with
 | zero=>cases q
 | succ n=>cases c <;> first | rfl | cases q
theorem BF (m:u.F f=some g) (r:cZ u.ks f [.globalImplicit]=true) (q:iu f=true) (x:PA X (a::Q) (nc X.K s)) (n:∀e ∈ a::Q,cY e) :
  PE X (.Call (.Name f U) (a::Q) [] E) (tV X.K (ah (pureOf g) s)):=by
 obtain⟨k,d,w,i,G,v,t,p,b⟩:=h.fns f g m;exact E_ (FnOk.pure G) v (h.gl r) t p b x (fg q).1 (n a List.mem_cons_self _ _) (iI fun e c=>n e (aZ _ c))
theorem t3 (v:u.F f=some g) (m:cZ u.ks f [.globalImplicit]=true) (t:iu f=true) (b:PA X (a::Q) (wL X.K s)) (n:∀e ∈ a::Q,cY e) :
  PE X (.Call (.Name f U) (a::Q) [] E) (tV X.K (b7 g s))/\PE X (.Call (.Name f U) (a::Q) [] E) (tE X.K (fR g s)):=by
 obtain⟨k,d,w,i,G,q,r,p,c⟩:=h.fns f g v;exact⟨An G q (h.gl m) r p c b (fg t).1 (n a List.mem_cons_self _ _) (iI fun e x=>n e (aZ _ x)),
  Cz G q (h.gl m) r p c b (fg t).1 (n a List.mem_cons_self _ _) (iI fun e x=>n e (aZ _ x))⟩
theorem Eg (x:zZ f=some g) (k:cZ u.ks f [.globalImplicit]=true) (n:PA X (a::Q) (nc X.K c)) (b:∀e ∈ a::Q,cY e) :
  PE X (.Call (.Name f U) (a::Q) [] E) (tV X.K (ah g c)):=by
 have s:=b a List.mem_cons_self Q X.env;have p:=iI (J:=X.env) (E:=E) fun e s=>b e (aZ _ s);unfold zZ at x;split at x
 .rename_i e;subst e;cases x;exact Cq (h.gl k) (h.blt _ (by decide)) n s p
 split at x
 .rename_i e;subst e;cases x;exact Cp (h.gl k) (h.blt _ (by decide)) n s p
 split at x
 .rename_i e;subst e;cases x;exact Al (h.gl k) (h.blt _ (by decide)) n s p
 split at x
 .rename_i e;subst e;cases x;exact E3 (h.gl k) (h.blt _ (by decide)) n s p
 split at x
 .rename_i e;subst e;cases x;exact E2 (h.gl k) (h.blt _ (by decide)) n h.calm s p
 split at x
 .rename_i e;subst e;cases x;exact E1 (h.gl k) (h.blt _ (by decide)) n h.calm s p
 .cases x
theorem D2 (t:zd s=some T) (n:cZ u.ks ("isinstance":Str) [.globalImplicit]=true) (k:cZ u.ks s [.globalImplicit]=true) (x:PE X a (tE X.K c)) (r:cY a) :
  PE X (.Call (.Name "isinstance" U) [a,.Name s b] [] E) (tV X.K (xU T c)):=by
 have f:starEach [a,.Name s b] X.env=[(false,eval a X.env),(false,eval (.Name s b) X.env)]:=by rw [r];rfl
 have m:=h.blt ("isinstance":Str) (by decide);unfold zd at t;split at t
 .rename_i e;subst e;cases t;exact IB y7 (h.gl n) m (h.gl k) (h.blt _ (by decide)) PyProof.Rows.boot_bool x (by decide) (by decide) f
 .cases t
omit h in
theorem mM (q:sR u f g=true):f=g/\cZ u.ks f [.globalImplicit]=true:=by unfold sR at q;rw [Bool.and_eq_true] at q;exact⟨of_decide_eq_true q.1,q.2⟩
theorem B7 {n:Nat}{O e:Expr}{f:fN} (g:∀x,Good X x (tr u n x)) (q:x2 u (fun x=>tr u n x) O e=some f):PI X O e (tI X.K f):=by
 have plain:((tr u n e).v.map iR=some f)->PI X O e (tI X.K f):=fun q=>by obtain⟨x,s,rfl⟩:=am q;exact iS ((g e).v x s)
 unfold x2 at q;split at q
 .rename_i i U k E;split at q
  .rename_i r;obtain⟨rfl,r⟩:=mM r;have c:=h.gl r;have m:=h.blt ("range":Str) (by decide);split at q
   .rename_i a;obtain⟨x,s,rfl⟩:=am q;exact K' c m ((g a).v x s) (bg (.inl (by rw [s];rfl)) _ _)
   .rename_i a b;obtain⟨x,s,q⟩:=al q;obtain⟨y,t,rfl⟩:=am q;have d:cY a:=bg (.inl (by rw [s];rfl));have w:cY b:=bg (.inl (by rw [t];rfl));have p:starEach [b] X.env=[(false,eval b X.env)]:=w _ _;exact K_ c m ((g a).v x s) ((g b).v y t) (by rw [d,p]) p
   .cases q
  .split at q
   .rename_i r;obtain⟨rfl,r⟩:=mM r;split at q
    .rename_i a;split at q
     .rename_i v;obtain⟨x,s,rfl⟩:=am q;cases O <;> first | (cases v;done) | skip
      exact iE (h.gl r) (h.blt ("enumerate":Str) (by decide)) ((g a).v x s) (bg (.inl (by rw [s];rfl)) _ _)
     .cases q
    .cases q
   .exact plain q
 .cases q
 .exact plain q
omit h in
theorem wC (q:uk u f a=some (b,c)):f="dict"/\∃r p x,a=.Call (.Name r p) [b,c] [] x/\sR u r "zip"=true:=by
 unfold uk at q;split at q
 .rename_i r p s n x;split at q
  .rename_i e;cases q;rw [Bool.and_eq_true] at e;exact⟨of_decide_eq_true e.1,r,p,x,rfl,e.2⟩
  .cases q
 .cases q
omit h in
theorem yY (q:yZ u f a=some b):f="list"/\∃r p c,a=.Call (.Name r p) [b] [] c/\sR u r "range"=true:=by
 unfold yZ at q;split at q
 .rename_i r p e c;split at q
  .rename_i x;rw [Bool.and_eq_true] at x;cases q;exact⟨of_decide_eq_true x.1,r,p,c,rfl,x.2⟩
  .cases q
 .cases q
omit h in
theorem sP (q:x2 u T O e=some f) (J:Env) (x:Value):foldedSetIterable e J x=pure x:=by cases e <;> first | rfl | cases q
theorem z4 (q:vc u j Y y n=true):BlockOk X j Y y n:=by
 unfold vc at q;simp only [Bool.and_eq_true] at q;obtain⟨⟨⟨⟨⟨⟨f,b⟩,c⟩,m⟩,r⟩,p⟩,v⟩:=q;have s:u.N=Y.take u.N.length:=of_decide_eq_true r;refine⟨of_decide_eq_true f,fun x a=>?_,fun x a l=>?_,fun x a l=>?_,?_,?_,fun x a l i k=>?_⟩
 .simpa using bq.mp b x a
 .have:=bq.mp c x a;rw [l] at this;simpa using this
 .have:=bq.mp m x a;rw [l] at this;have t:j.names.lookup x.1=some .free/\(u.ks.lookup x.1=some .cell\/u.ks.lookup x.1=some .free):=by simpa using this
  refine⟨t.1,?_⟩;unfold Env.kindOf;rw [h.ks];exact t.2
 .rw [h.hN];exact s
 .rw [h.hN];exact of_decide_eq_true p
 .have:=bq.mp v x a;rw [l] at this;have e:kA u.N x.1=some i:=lQ (by rw [<- h.hN];exact h.nd) (by rw [<- h.hN];exact k);rw [e] at this;simpa using this
end
theorem B6 {X:Cx}{N:LS}{s:List (Str×NameKind)}{k:List NameKind}{e:Expr}{g:iK} (n:X.N=N) (d:X.N.Nodup) (f:∀x,cZ s x k=true->L2.Loc X.env.scope x/\(X.fn x=true\/X.env.scope.names.lookup x=some .local)) (q:Az N s k e=some g):D3 e=true/\PG X e (gT X.K g):=by
 unfold Az at q;split at q
 .split at q
  .rename_i c;obtain⟨i,b,rfl⟩:=am q;obtain⟨h,a⟩:=f _ c;exact⟨rfl,D6 i d (by rw [n];exact ny b) h a⟩
  .cases q
 .cases q
theorem tg_ok {X:Cx}{N:LS}{h:List (Str×NameKind)}{k:List NameKind}{e:Expr}{g:iK} (m:X.calm=true) (n:X.N=N) (d:X.N.Nodup) (f:∀x,cZ h x k=true->L2.Loc X.env.scope x/\(X.fn x=true\/X.env.scope.names.lookup x=some .local)) (q:xY N h k e=some g):PG X e (gT X.K g):=by
 have all:∀{B:Ab}{s:List iK},x0 N h k B=some s->GsOk X B s:=by
  intro B;induction B with
  | nil=>intro s q;cases q;exact .nil
  | cons e B i=>intro s q;obtain⟨g,a,q⟩:=al q;obtain⟨r,t,rfl⟩:=am q;obtain⟨b,c⟩:=B6 n d f a;exact .cons b c (i t)
 unfold xY at q;split at q
 .obtain⟨s,a,rfl⟩:=am q;exact D5 m (all a)
 .exact (B6 n d f q).2
variable {j:Scope}
theorem yi (h:J.scope.kind=.function):(relabel j J).names=oZ j.names J.scope.names:=by unfold relabel oZ Env.kindOf;rw [h];simp
variable {X:Cx}{Y:LS}{y:List Nat}
theorem XOk.inn (h:XOk u X) (B:BlockOk X j Y y n) (d:Y.Nodup) (s:Shared) (H:Hp) (C:Addr) (U:List Addr) :
  XOk ⟨Y,[],[],u.refs,oZ j.names u.ks,u.F,u.G,u.A,u.M,u.I⟩ (Ev.inn X j Y s H C U) where
 hN:=rfl
 nd:=d
 ks:=by show (relabel j X.env).names=_;rw [yi h.kd,h.ks]
 kd:=B.kind
 calm:=h.calm
 hu:=h.hu
 fns:=h.fns
 blt:=h.blt
 glb:=h.glb
 attrs:=h.attrs
 meths:=h.meths
 mks:=h.mks
theorem nZ (B:BlockOk X j Y y n) (I:Inv X q g H s):closureFor j X.env=pure (lH j X.env):=by
 have all:∀x ∈ j.names,x.2=.free->∃c,X.env.cells.lookup x.1=some c:=fun x w f=>I.ok.has x.1 (B.fr x w f).2;unfold closureFor lH;have m:∀(l:List (Str×NameKind)) (a:List (Str×Addr)),(∀x ∈ l,x.2=.free->∃c,X.env.cells.lookup x.1=some c) ->
   (forIn l a fun (x:Str×NameKind) (r:List (Str×Addr))=>(do
    if x.2 == .free then do
     let c <- cellOf X.env x.1
     pure (ForInStep.yield ((x.1,c)::r))
    else pure (ForInStep.yield r):Sem (ForInStep (List (Str×Addr)))))=pure ((((l.filter fun x=>x.2 == .free).map fun x=>(x.1,(X.env.cells.lookup x.1).getD 0)).reverse)++a):=by
  intro l;induction l with
  | nil=>intro a _;rfl
  | cons x l i=>
   intro a f;rw [List.forIn_cons];by_cases e:(x.2 == NameKind.free)=true
   .obtain⟨c,t⟩:=f x List.mem_cons_self (by simpa using e);rw [if_pos e,ud (p:=fun (x:Str×NameKind)=>x.2 == .free) e,List.map_cons,List.reverse_cons,List.append_assoc];have d:cellOf X.env x.1=pure c:=by unfold cellOf;rw [t]
    rw [d,t];show (forIn l ((x.1,c)::a) _:Sem _)=_;rw [i ((x.1,c)::a) fun h b=>f h (aZ _ b)];rfl
   .rw [if_neg e,uc (p:=fun (x:Str×NameKind)=>x.2 == .free) e];show (forIn l a _:Sem _)=_;rw [i a fun h b=>f h (aZ _ b)]
 have k:=m j.names [] all;rw [List.append_nil] at k;show (Bind.bind (forIn j.names [] fun (x:Str×NameKind) (r:List (Str×Addr))=>(do
    if x.2 == .free then do
     let c <- cellOf X.env x.1
     pure (ForInStep.yield ((x.1,c)::r))
    else pure (ForInStep.yield r):Sem (ForInStep (List (Str×Addr))))) fun v=>pure v:Sem (List (Str×Addr)))=_
 rw [k];rfl
variable {O:Expr}
theorem Cw (B:BlockOk X j Y y n) (h:X.calm=true)
  (m:PI X O iter (tI X.K b)) (f:∀s H C U,PG (inn X j Y s H C U) O (gT X.K g)) (a:∀s H C U,PIfs (inn X j Y s H C U) i c) (e:∀s H C U,PE (inn X j Y s H C U) l (tV X.K k))
  (r:∀x,foldedSetIterable iter X.env x=pure x) :
  PE X (.ListComp l [⟨O,iter,i,0⟩] j E) (tV X.K (aU b y n g c k)):=fun p s t H Q I q=>
 E8 B h m f a e (nZ B I) r p s t H Q I q
variable {x:Str}
theorem Cm (i:Nat) (N:X.N.Nodup) (B:BlockOk X j Y y n) (h:X.calm=true)
  (t:PI X O iter (tI X.K z)) (r:∀s H C U,PG (inn X j Y s H C U) O (gT X.K g)) (e:∀s H C U,PIfs (inn X j Y s H C U) k c) (f:∀s H C U,PE (inn X j Y s H C U) l (tV X.K d))
  (w:swapsWith (.ListComp l [⟨O,iter,k,0⟩] j E) (some (.Name x A)) b.line X.env=pure true)
  (v:∀x,foldedSetIterable iter X.env x=pure x) (a:X.N[i]? = some x) (u:L2.Loc X.env.scope x)
  (m:X.fn x=true\/X.env.scope.names.lookup x=some .local) :
  PS X (.Assign [.Name x A] (.ListComp l [⟨O,iter,k,0⟩] j E) b) (kc X.K (au i (eV (aU z y n g c d)))):=fun p s o H D I q=>
 EX i N B h t r e f (nZ B I) w v a u m p s o H D I q
noncomputable def rV (n:Nat):Prop:=∀(u:Cn) (X:Cx),XOk u X->∀e,Good X e (tr u n e)
theorem XOk.own (h:XOk u X) (o:LS):XOk ⟨u.N,o,u.deep,u.refs,u.ks,u.F,u.G,u.A,u.M,u.I⟩ X:=⟨h.hN,h.nd,h.ks,h.kd,h.calm,h.hu,h.fns,h.blt,h.glb,h.attrs,h.meths,h.mks⟩
theorem tU {u:Cn}{X:Cx} (h:XOk u X) {n:Nat} (G:rV n) {l O iter:Expr}{k:Ab}{j:Scope}{f:EV} (q:m_ u (fun p x=>tr p n x) l O iter k j=some f) :
  ∃Y y m w g v d,BlockOk X j Y y m/\PI X O iter (tI X.K w)/\(∀s H C U,PG (inn X j Y s H C U) O (gT X.K g))/\(∀s H C U,PIfs (inn X j Y s H C U) k v)/\(∀s H C U,PE (inn X j Y s H C U) l (tV X.K d)) /\
   (∀x,foldedSetIterable iter X.env x=pure x)/\f=aU w y m g v d:=by
 unfold m_ at q;generalize N:u.N++ms u.N (gB O)=Y at q;generalize K:JW u.N (gB O)=y at q;generalize E:(ms u.N (gB O)).length=m at q;split at q
 .rename_i b;rw [Bool.and_eq_true] at b;obtain⟨P,S,q⟩:=al q;obtain⟨F,A,q⟩:=al q;obtain⟨c,t,q⟩:=al q;obtain⟨e,D,rfl⟩:=am q;have B:BlockOk X j Y y m:=z4 h b.1;have o:Y.Nodup:=of_decide_eq_true b.2;have i:=fun s H C U=>(h.inn B o s H C U).own (u.own.filter (fun x=>!(gB O).contains x))
  refine⟨Y,y,m,P,F,c,e,B,B7 h (G u X h) S,fun s H C U=>?_,fun s H C U=>?_,fun s H C U=>?_,fun x=>sP S _ x,rfl⟩
  .exact tg_ok h.calm rfl o (fun x z=>⟨.inl ((i s H C U).local z),.inr ((i s H C U).local z)⟩) A
  .cases k with
   | nil=>cases t;exact PIfs.none
   | cons a r=>
    cases r with
    | nil=>exact PIfs.one ((G _ _ (i s H C U) a).b c t)
    | cons _ _=>cases t
  .exact (G _ _ (i s H C U) l).v e D
 .cases q
theorem tT {u:Cn}{X:Cx} (h:XOk u X) {n:Nat} (G:rV n) {e O iter:Expr}{a:Ab}{j:Scope}{E:Pos}{f:EV} (q:m_ u (fun b x=>tr b n x) e O iter a j=some f) :
  PE X (.ListComp e [⟨O,iter,a,0⟩] j E) (tV X.K f)/\∀(i:Nat) {x:Str}{p s:Pos},X.N.Nodup->swapsWith (.ListComp e [⟨O,iter,a,0⟩] j E) (some (.Name x p)) s.line X.env=pure true->X.N[i]? = some x->L2.Loc X.env.scope x->(X.fn x=true\/X.env.scope.names.lookup x=some .local) ->
   PS X (.Assign [.Name x p] (.ListComp e [⟨O,iter,a,0⟩] j E) s) (kc X.K (au i (eV f))):=by
 obtain⟨Y,y,m,H,S,z,o,B,c,r,t,v,d,rfl⟩:=tU h G q;exact⟨Cw B h.calm c r t v d,fun i x p s N l k g w=>Cm i N B h.calm c r t v l d k g w⟩
variable {o:Expr}
theorem gj (h:nB u n o=true) (a:x≠("__class__":Str)):attributeBase o x J (eval o J)=eval o J:=by
 cases n with
 | zero=>cases h
 | succ n=>
  cases o with
  | Call f Q k p=>
   cases f with
   | Attribute o m q=>rfl
   | _=>cases h
  | _=>first | (cases h;done) | rfl
theorem m7 (h:sg e=some B):∃c p,e=.Tuple B c p:=by
 unfold sg at h;split at h
 .cases h;exact⟨_,_,rfl⟩
 .cases h
variable {Q:Ab}{a:Expr}
theorem yd (h:ye Q=some a):∃p,Q=[a,.List [] p]:=by
 unfold ye at h;split at h
 .cases h;exact⟨_,rfl⟩
 .cases h
variable {m:Str}
theorem qz (h:Eu u o m s k c=true):m=s/\nB u 4 o=true/\(k.endLine == c.line)=true:=by unfold Eu at h;simp only [Bool.and_eq_true] at h;exact⟨of_decide_eq_true h.1.1,h.1.2,h.2⟩
theorem jr (h:zj o=true):attributeBase o x J (eval o J)=eval o J:=by unfold zj at h;split at h;all_goals first | rfl | cases h
theorem Br (h:∀e ∈ Q,cY e) (l:Q.length < 29):methodCallForm (Q.length+([]:List Keyword).length) (backTo E (starEach Q J)) (backToKw E (keywordEach [] J))=true:=by
 unfold methodCallForm;have a:=iI (J:=J) (E:=E) h;have s:(backTo E (starEach Q J)).all (fun x=>!x.1)=true:=by
  rw [bq];intro x k;cases b:x.1 with
  | false=>rfl
  | true=>have:(backTo E (starEach Q J)).any (·.1)=true:=pM.mpr ⟨x,k,b⟩;rw [a] at this;cases this
 rw [s];have n:(backToKw E (keywordEach [] J))=[]:=rfl;rw [n];simp;lia
theorem m9 (h:XOk u X) (g:∀x,Good X x (tr u n x)):Good X (.Call (.Attribute o m b) s [] d) (CK u (tr u n o).e o m (s.map fun x=>(tr u n x).e) b d):=by
 unfold CK;split
 .rename_i c;simp only [Bool.and_eq_true] at c;have l:s.length < 29:=by have:=of_decide_eq_true c.2;rwa [bu] at this
  refine .ofE (fun f q=>?_) fun _ _=>rfl;obtain⟨x,t,q⟩:=al q;obtain⟨a,p,rfl⟩:=am q;obtain⟨v,k⟩:=kj (fun e _=>g e) p;have r:=DB (o:=o) (y:=m) (j:=b) (J:=d) (r:=s) (v:=X.env) (jr c.1.1) (Br k l) c.1.2;cases s with
  | nil=>cases p;exact Cs h.meths ((g o).e x t) r
  | cons e B=>exact E4 h.meths ((g o).e x t) v (k e List.mem_cons_self _ _) (iI fun y w=>k y (aZ _ w)) r
 .exact .no
variable {f:Str}{U:Pos}
theorem Ba (h:XOk u X) (r:u.I f=some g) (t:cZ u.ks f [.globalImplicit]=true) (q:iu f=true) (b:PA X (a::Q) (wL X.K s)) (n:∀e ∈ a::Q,cY e) :
  PE X (.Call (.Name f U) (a::Q) [] E) (tE X.K (nQ g f s)):=by
 obtain⟨C,k,d,w,i,x,p,mk,G,v,c⟩:=h.mks f g r;exact E5 mk G v (h.gl t) p x c b (fg q).1 (n a List.mem_cons_self _ _) (iI fun e m=>n e (aZ _ m))
theorem vA:∀n,rV n
 | 0=>fun u X h e=>Good.no
 | n+1=>by
  have G:=vA n;intro u X h e;have g:=G u X h;unfold tr;split
  .exact .ofV (fun f q=>by cases q;exact IS) fun _ _=>rfl
  .exact .ofV (fun f q=>by cases q;exact KP) fun _ _=>rfl
  .exact .ofV (fun f q=>by cases q;exact IL) fun _ _=>rfl
  .exact .ofV (fun f q=>by cases q;exact IH) fun _ _=>rfl
  .split
   .rename_i x p d;rw [Bool.and_eq_true] at d;refine .ofE (fun f q=>?_) fun _ _=>rfl
    obtain⟨i,s,rfl⟩:=am q;exact IE i (h.get s) (h.vis d.1) (fg d.2).1 (fg d.2).2
   .split
    .rename_i d;rw [Bool.and_eq_true] at d;refine .ofV (fun f q=>?_) fun _ _=>rfl
     obtain⟨v,s,q⟩:=al q;split at q
     .cases q
     .rename_i hd;cases q;exact E6 (h.gl d.1) ((h.glb _ v s).1 (by simpa using hd)) (fg d.2).1
    .exact .no
  .refine .ofV (fun f q=>?_) fun _ _=>rfl;obtain⟨o,s,q⟩:=al q;obtain⟨x,k,q⟩:=al q;obtain⟨y,w,rfl⟩:=am q;exact KL (Ef h s) ((g _).v x k) ((g _).v y w)
  .refine .ofV (fun f q=>?_) fun _ _=>rfl;obtain⟨x,s,rfl⟩:=am q;exact IM ((g _).v x s)
  .refine .ofB (fun f q=>?_) fun f q=>?_
   .obtain⟨x,s,rfl⟩:=am q;exact IA ((g _).b x s)
   .obtain⟨x,s,rfl⟩:=am q;exact IK ((g _).w x s)
  .exact .ofB (fun f q=>(rY (fun e _=>g e) q).pt) fun f q=>rZ (fun e _=>g e) q
  .refine .ofC (fun f q=>?_) fun f q=>?_
   .split at q
    .rename_i g' s;obtain⟨x,k,q⟩:=al q;obtain⟨y,w,rfl⟩:=am q;exact IU (lG s) ((g _).v x k) ((g _).v y w) (tS _ s)
    .obtain⟨o,s,q⟩:=al q;obtain⟨x,k,q⟩:=al q;obtain⟨y,w,rfl⟩:=am q;exact E9 (wn h s) ((g _).e x k) ((g _).e y w) (vR (by rw [w];rfl))
   .split at q
    .rename_i g' s;obtain⟨x,k,q⟩:=al q;obtain⟨y,w,rfl⟩:=am q;exact IC (lG s) ((g _).v x k) ((g _).v y w) (tS _ s)
    .obtain⟨o,s,q⟩:=al q;obtain⟨x,k,q⟩:=al q;obtain⟨y,w,rfl⟩:=am q;exact EY (wn h s) ((g _).e x k) ((g _).e y w) (vR (by rw [w];rfl))
  .refine .ofC (fun f q=>?_) fun f q=>?_
   .obtain⟨o,s,q⟩:=al q;obtain⟨o',k,q⟩:=al q;obtain⟨x,w,q⟩:=al q;obtain⟨y,E,q⟩:=al q;obtain⟨z,I,rfl⟩:=am q;exact Cy (lG s) (lG k) ((g _).v x w) ((g _).v y E) ((g _).v z I) (sK (by rw [I];rfl))
   .obtain⟨o,s,q⟩:=al q;obtain⟨o',k,q⟩:=al q;obtain⟨x,w,q⟩:=al q;obtain⟨y,E,q⟩:=al q;obtain⟨z,I,rfl⟩:=am q;exact Co (lG s) (lG k) ((g _).v x w) ((g _).v y E) ((g _).v z I) (sK (by rw [I];rfl))
  .rename_i c a b p;have R:∀f,((tr u n c).b.bind fun q=>(tr u n a).v.bind fun x=>(tr u n b).v.map fun y=>BV q x y)=some f->PE X (.IfExp c a b p) (tV X.K f):=fun f q=>by
    obtain⟨o,s,q⟩:=al q;obtain⟨x,k,q⟩:=al q;obtain⟨y,w,rfl⟩:=am q;exact KO ((g _).b o s) ((g _).v x k) ((g _).v y w)
   refine⟨R,fun f q=>?_,fun f q=>(by cases q),fun f q=>?_⟩
   .obtain⟨x,s,rfl⟩:=am (show Option.map eV _=some f from q);exact Ep (R _ s)
   .obtain⟨x,s,rfl⟩:=am (show Option.map bV _=some f from q);exact vl (R _ s)
  .refine .ofV (fun f q=>?_) fun _ _=>rfl;obtain⟨x,s,rfl⟩:=am q;exact IG (fX (fun e _=>g e) s).1
  .refine .ofV (fun f q=>?_) fun _ _=>rfl;obtain⟨x,s,rfl⟩:=am q;exact IN (fX (fun e _=>g e) s).1
  .exact⟨fun f q=>(by cases q;exact IF xS),fun f q=>(by cases q;exact xS),fun f q=>(by cases q),fun f q=>(by cases q)⟩
  .refine .ofV (fun f q=>?_) fun _ _=>rfl;obtain⟨x,s,q⟩:=al q;obtain⟨y,k,q⟩:=al q;obtain⟨z,w,rfl⟩:=am q;exact IJ ((g _).v x s) (qh g k) (qh g w)
  .refine .ofV (fun f q=>?_) fun _ _=>rfl;obtain⟨x,s,q⟩:=al q;obtain⟨y,k,q⟩:=al q;obtain⟨z,w,q⟩:=al q;obtain⟨c,E,rfl⟩:=am q;exact II ((g _).v x s) (qh g k) (qh g w) (yO ((g _).v c E))
  .split
   .split
    .rename_i N;obtain⟨c,p,rfl⟩:=m7 N;refine .ofE (fun f q=>?_) fun _ _=>rfl
     obtain⟨x,s,q⟩:=al q;obtain⟨y,k,rfl⟩:=am q;exact IQ (by have:=h.hu;lia) ((g _).e x s) (fX (fun e _=>g e) k).1 fun _ _=>rfl
    refine .ofE (fun f q=>?_) fun _ _=>rfl;obtain⟨x,s,q⟩:=al q;obtain⟨y,k,rfl⟩:=am q;exact IR (by have:=h.hu;lia) ((g _).e x s) ((g _).v y k) (nq (by rw [k];rfl))
   .refine .ofV (fun f q=>?_) fun _ _=>rfl;obtain⟨x,s,q⟩:=al q;obtain⟨y,k,rfl⟩:=am q;exact KN (by have:=h.hu;lia) ((g _).v x s) ((g _).v y k) (nq (by rw [k];rfl))
  .rename_i f U j Z;split
   .rename_i d;rw [Bool.and_eq_true] at d;split
    .rename_i gf J;split
     .exact .no
     .rename_i F l;refine .ofE (fun f q=>?_) fun _ _=>rfl
      obtain⟨x,s,rfl⟩:=am q;obtain⟨H,S⟩:=kj (fun e _=>g e) s;cases j with
      | nil=>exact absurd rfl l
      | cons a Q=>exact Ba h J d.1 d.2 H S
    split
    .rename_i gf J;split
     .exact .no
     .rename_i F l;split
      .refine .ofV (fun f q=>?_) fun _ _=>rfl;obtain⟨x,s,rfl⟩:=am q;obtain⟨H,S⟩:=kj (fun e _=>g e) s;cases j with
       | nil=>exact absurd rfl l
       | cons a Q=>exact (t3 h J d.1 d.2 H S).1
      .refine .ofV (fun f q=>?_) fun _ _=>rfl;obtain⟨x,s,rfl⟩:=am q;obtain⟨H,S⟩:=fX (fun e _=>g e) s;cases j with
       | nil=>exact absurd rfl l
       | cons a Q=>exact BF h J d.1 d.2 H S
    .split
     .exact .no
     .rename_i a;split
      .rename_i D;subst D;refine .ofV (fun f q=>?_) fun _ _=>rfl
       obtain⟨x,s,rfl⟩:=am q;exact IP (h.gl d.1) (h.blt _ (by decide)) ((g _).e x s) (bg (.inr (by rw [s];rfl)) _ _)
      .split
       .rename_i D;subst D;refine .ofV (fun f q=>?_) fun _ _=>rfl
        obtain⟨x,s,rfl⟩:=am q;exact xR (h.gl d.1) (h.blt _ (by decide)) ((g _).e x s) (bg (.inr (by rw [s];rfl)) _ _)
       .split
        .rename_i b O;obtain⟨rfl,r,p2,Y,rfl,A⟩:=yY O;refine .ofV (fun f q=>?_) fun _ _=>rfl
         obtain⟨x,s,rfl⟩:=am q;obtain⟨rfl,A⟩:=mM A;exact Am h.calm (h.gl d.1) (h.blt _ (by decide)) (h.gl A) (h.blt _ (by decide)) ((g _).v x s) (bg (.inl (by rw [s];rfl)) _ _)
        .split
         .rename_i z O;obtain⟨b,c⟩:=z;obtain⟨rfl,r,p2,Y,rfl,A⟩:=wC O;refine .ofE (fun f q=>?_) fun _ _=>rfl
          obtain⟨x,s,q⟩:=al q;obtain⟨y,k,rfl⟩:=am q;obtain⟨rfl,A⟩:=mM A;have C:cY b:=bg (.inl (by rw [s];rfl));have V:cY c:=bg (.inl (by rw [k];rfl));have L:starEach [c] X.env=[(false,eval c X.env)]:=V _ _;exact Cu h.calm (h.gl d.1) (h.blt _ (by decide)) (h.gl A) (h.blt _ (by decide)) ((g _).v x s) ((g _).v y k) (by rw [C,L]) L PyProof.Rows.boot_zip
         refine .ofV (fun f q=>?_) fun _ _=>rfl;obtain⟨o,s,q⟩:=al q;obtain⟨x,k,rfl⟩:=am q;obtain⟨H,S⟩:=fX (B:=[a]) (fun e _=>g e) k;exact Eg h s d.1 H S
     .rename_i a t tp;split
      .rename_i D;subst D;split
       .rename_i ht;split
        .rename_i T s;refine .ofV (fun f q=>?_) fun _ _=>rfl
         obtain⟨x,k,rfl⟩:=am q;exact D2 h s d.1 ht ((g _).e x k) (bg (.inr (by rw [k];rfl)))
        .exact .no
       .exact .no
      .exact .no
     .exact .no
   .exact .no
  .split
   .rename_i d;obtain⟨rfl,K,P⟩:=qz d;refine .ofE (fun f q=>?_) fun _ _=>rfl
    obtain⟨x,s,q⟩:=al q;obtain⟨y,k,rfl⟩:=am q;exact Aq ((g _).e x s) ((g _).e y k) (bg (.inr (by rw [k];rfl)) _ _) (gj K (by decide)) P
   .split
    .rename_i d;obtain⟨rfl,K,P⟩:=qz d;refine .ofE (fun f q=>?_) fun _ _=>rfl
     obtain⟨x,s,q⟩:=al q;obtain⟨y,k,rfl⟩:=am q;exact Ap ((g _).e x s) ((g _).v y k) (bg (.inl (by rw [k];rfl)) _ _) (gj K (by decide)) P
    .split
     .rename_i d;simp only [Bool.and_eq_true] at d;have M:=of_decide_eq_true d.1.1;subst M;refine .ofV (fun f q=>?_) fun _ _=>rfl
      obtain⟨x,s,q⟩:=al q;obtain⟨y,k,rfl⟩:=am q;exact Ct h.hu ((g _).v x s) ((g _).v y k) (bg (.inl (by rw [k];rfl)) _ _) (jr d.1.2) d.2
     .split
      .rename_i N;obtain⟨c,p,rfl⟩:=m7 N;split
       .rename_i d;obtain⟨rfl,K,P⟩:=qz d;refine .ofE (fun f q=>?_) fun _ _=>rfl
        obtain⟨x,s,q⟩:=al q;obtain⟨y,k,rfl⟩:=am q;exact E7 (by have:=h.hu;lia) ((g _).e x s) (fX (fun e _=>g e) k).1 ⟨gj K (by decide),rfl,P,rfl⟩
       .exact m9 h g (s:=[_])
      .exact m9 h g (s:=[_])
  .split
   .rename_i gx gp m ap a b Z d;rw [Bool.and_eq_true] at d;have M:=of_decide_eq_true d.1;subst M;refine .ofV (fun f q=>?_) fun _ _=>rfl
    obtain⟨x,s,q⟩:=al q;obtain⟨y,k,q⟩:=al q;obtain⟨z,w,rfl⟩:=am q;have C:cY a:=bg (.inl (by rw [k];rfl));have V:cY b:=bg (.inl (by rw [w];rfl));have L:starEach [b] X.env=[(false,eval b X.env)]:=V _ _;have W:starEach [a,b] X.env=[(false,eval a X.env),(false,eval b X.env)]:=by rw [C,L]
    exact Cr (by have:=h.hu;lia) ((g _).v x s) ((g _).v y k) ((g _).v z w) ⟨rfl,by rw [W];rfl,d.2,by rw [W];rfl⟩
   .exact m9 h g (s:=[_,_])
  .split
   .rename_i B;obtain⟨p,rfl⟩:=yd B;split
    .rename_i d;obtain⟨rfl,K,P⟩:=qz d;refine .ofE (fun f q=>?_) fun _ _=>rfl
     obtain⟨x,s,q⟩:=al q;obtain⟨y,k,rfl⟩:=am q;have C:cY _:=bg (.inl (by rw [k];rfl));exact Ao ((g _).e x s) ((g _).v y k) (BS Ej) ⟨gj K (by decide),by rw [C];rfl,P,by rw [C];rfl⟩
    .exact m9 h g
   .exact m9 h g
  .split
   .rename_i d;refine .ofE (fun f q=>?_) fun _ _=>rfl
    obtain⟨x,s,rfl⟩:=am q;exact IT h.attrs ((g _).e x s) (jr d)
   .exact .no
  .refine .ofV (fun f q=>?_) fun _ _=>rfl;exact (tT h G q).1
  .exact .no
theorem x3 (h:XOk u X) (n:Nat):∀(k:Nat) {e:Expr}{f:EE},Fi u n k e=some f->PE X e (tE X.K f)
 | k,e,f,q=>by
  have g:=vA n u X h;unfold Fi at q;split at q
  .rename_i v U r p;split at q
   .rename_i c;simp only [Bool.and_eq_true] at c;split at q
    .rename_i d m;obtain⟨x,t,rfl⟩:=am q;obtain⟨s,b⟩:=kj (fun e _=>g e) t;cases r with
     | nil=>simp at c
     | cons a Q=>exact (t3 h m c.1.1 c.1.2 s b).2
    .exact (g _).e f q
   .exact (g _).e f q
  .exact (g _).e f q
noncomputable def ut (T:Stmt->Option ES):List Stmt->Option ES
 | []=>some eJ
 | [s]=>T s
 | s::r=>(T s).bind fun f=>(ut T r).map fun g=>ae f g
noncomputable def B_:Expr->Option (Ab)
 | .List B _=>some B
 | _=>none
noncomputable def j3:Expr->Bool
 | .ListComp ..=>true
 | _=>false
noncomputable def D4:Expr->Bool
 | .Dict [] [] _=>true
 | _=>false
theorem Bo (h:D4 e=true):∃p,e=.Dict [] [] p:=by
 unfold D4 at h;split at h
 .exact⟨_,rfl⟩
 .cases h
theorem ju (h:j3 e=false):∀a b c d,e≠.ListComp a b c d:=fun a b c d z=>by subst z;cases h
noncomputable def CJ (u:Cn):Nat->Stmt->Option ES
 | 0,_=>none
 | n+1,st=>match st with
  | .Assign [.Name x _] v _=>if cZ u.ks x [.local,.cell]=true then (kA u.N x).bind fun i=>if (u.deep.contains x && !j3 v)=true then (Fi u n 5 v).map (au i) else match B_ v with
    | some B=>if u.own.contains x=true then (og (B.map fun y=>(tr u n y).v)).map fun a=>au i (cS a) else (tr u n v).e.map (au i)
    | none=>(tr u n v).e.map (au i)
   else none
  | .Assign [.Subscript o i _] v _=>match sg i with
   | some B=>(tr u n o).e.bind fun x=>(og (B.map fun z=>(tr u n z).v)).bind fun y=>if j3 v=true then none else (tr u n v).v.map fun z=>vI x y z
   | none=>(tr u n o).e.bind fun x=>(tr u n i).v.bind fun y=>if j3 v=true then none else (tr u n v).v.map fun z=>eY x y z
  | .Assign [.Attribute o f _] v _=>if (D4 v && u.deep.contains f)=true then (tr u n o).e.map fun x=>kl u.A x f qS else if j3 v=true then none else (tr u n o).e.bind fun x=>(Fi u n 5 v).map fun z=>kl u.A x f z
  | .Assign [.Tuple B c p] v _=>if (j3 v || zf v)=true then none else (xY u.N u.ks [.local,.cell] (.Tuple B c p)).bind fun g=>(tr u n v).v.map fun z=>ni g z
  | .Return (some e) _=>(tr u n e).e.map aL
  | .Expr e _=>if j3 e=true then none else (tr u n e).e.map ci
  | .If c a b _=>(tr u n c).b.bind fun q=>(ut (CJ u n) a).bind fun x=>(ut (CJ u n) b).map fun y=>eA q x y
  | .For O iter d [] _=>(xY u.N u.ks [.local,.cell] O).bind fun g=>(x2 u (fun y=>tr u n y) O iter).bind fun t=>(ut (CJ u n) d).map fun b=>cN t g b
  | .Break _=>some HF
  | .Continue _=>some HE
  | _=>none
theorem i5 {v:Expr}{t:Option Expr}{line:Nat}{J:Env} (h:∀a b c d,v≠.ListComp a b c d) (x:∀a b c d,v≠.SetComp a b c d) (s:∀a b c d e,v≠.DictComp a b c d e):swapsWith v t line J=pure false:=by cases v <;> first | rfl | exact absurd rfl (h _ _ _ _) | exact absurd rfl (x _ _ _ _) | exact absurd rfl (s _ _ _ _ _)
theorem sF (h:(tr u n e).e.isSome=true):(∀a b c d,e≠.SetComp a b c d)/\∀a b c d f,e≠.DictComp a b c d f:=by
 cases n with
 | zero=>cases h
 | succ n=>exact⟨fun a b c d z=>(by subst z;cases h),fun a b c d f z=>(by subst z;cases h)⟩
theorem IX {u:Cn}{n:Nat}{e:Expr}{f:EV} (h:(tr u n e).v=some f) (l:∀a b c d,e≠.ListComp a b c d):(∀a b c d,e≠.SetComp a b c d)/\∀a b c d g,e≠.DictComp a b c d g:=by
 cases n with
 | zero=>cases h
 | succ n=>exact⟨fun a b c d z=>(by subst z;cases h),fun a b c d f z=>(by subst z;cases h)⟩
theorem BX {u:Cn}{n k:Nat}{e:Expr}{f:EE} (h:Fi u n k e=some f):(∀a b c d,e≠.SetComp a b c d)/\∀a b c d g,e≠.DictComp a b c d g:=by
 cases n with
 | zero=>exact⟨fun a b c d z=>(by subst z;cases h),fun a b c d f z=>(by subst z;cases h)⟩
 | succ n=>exact⟨fun a b c d z=>(by subst z;cases h),fun a b c d f z=>(by subst z;cases h)⟩
theorem sw (h:(tr u n e).v.isSome=true):n_ e:=by
 intro o E J v;cases n with
 | zero=>cases h
 | succ n=>cases e <;> first | rfl | cases h
theorem yP (h:zf l=false):swappedStores [.Tuple B c s] l J=pure none:=by cases l <;> first | rfl | cases h
theorem Ay {u:Cn}{n:Nat}{e:Expr}{g:List Comprehension}{j:Scope}{E:Pos}{f:EE} (h:(tr u n (.ListComp e g j E)).e=some f) :
    ∃k O iter i b,n=k+1/\g=[⟨O,iter,i,0⟩]/\m_ u (fun s x=>tr s k x) e O iter i j=some b/\f=eV b:=by
  cases n with
  | zero=>cases h
  | succ n=>
    unfold tr at h;split at h;all_goals first
      | (rename_i a;cases a;done)
      | (rename_i a;cases a
         obtain⟨x,q,rfl⟩:=am (show Option.map eV _=some f from h);exact⟨n,_,_,_,x,rfl,rfl,q,rfl⟩)
      | (cases h;done)
theorem ki (h:∀st f,T st=some f->PS X st (kc X.K f)):∀{a:List Stmt}{f:ES},ut T a=some f->mw X a (kc X.K f)
 | [],f,q=>by cases q;exact Ix
 | [s],f,q=>Iw (h s f q)
 | s::t::r,f,q=>by obtain⟨x,e,q⟩:=al q;obtain⟨y,n,rfl⟩:=am q;exact EW (h s x e) (ki h n)
theorem xZ {u:Cn}{X:Cx} (h:XOk u X) (r:∀x,X.fn x=true) (N:PassesOwn (model X.prog X.w) X.A X.env X.xe):∀n (st:Stmt) (f:ES),CJ u n st=some f->PS X st (kc X.K f)
 | 0,st,f,q=>by cases q
 | n+1,st,f,q=>by
  have G:=xZ h r N n;have g:=vA n u X h;unfold CJ at q;split at q
  .rename_i x A v K;split at q
   .rename_i P;obtain⟨i,qi,q⟩:=al q;split at q
    .rename_i hd;rw [Bool.and_eq_true] at hd;obtain⟨J,s,rfl⟩:=am q;obtain⟨t,w⟩:=BX s;exact Ak i h.nd (x3 h n 5 s) (h.get qi) (h.loc P) (i5 (ju (by simpa using hd.2)) t w) (.inl (r x))
    have plain:(tr u n v).e.map (au i)=some f->PS X (.Assign [.Name x A] v K) (kc X.K f):=fun q=>by
     obtain⟨J,s,rfl⟩:=am q;by_cases M:∃a b c d,v=.ListComp a b c d
     .obtain⟨a,b,c,d,rfl⟩:=M;obtain⟨k,O,iter,F,V,rfl,rfl,j,rfl⟩:=Ay s;have I:=tT (E:=d) h (vA k) j;have C:swapsWith (.ListComp a [⟨O,iter,F,0⟩] c d) (some (.Name x A)) K.line X.env=pure (X.env.blockKind == .function && X.env.kindOf x == some .local && A.line == (Expr.ListComp a [⟨O,iter,F,0⟩] c d).pos.line
       && !(c.names.any fun (n,k)=>n == x && (k == .local || k == .cell))):=rfl
      cases L:(X.env.blockKind == .function && X.env.kindOf x == some .local && A.line == (Expr.ListComp a [⟨O,iter,F,0⟩] c d).pos.line && !(c.names.any fun (n,k)=>n == x && (k == .local || k == .cell))) with
      | true=>rw [L] at C;exact I.2 i h.nd C (h.get qi) (h.loc P) (.inl (r x))
      | false=>rw [L] at C;exact Ak i h.nd (Ep I.1) (h.get qi) (h.loc P) C (.inl (r x))
     .have l:∀a b c d,v≠.ListComp a b c d:=fun a b c d z=>M ⟨a,b,c,d,z⟩;obtain⟨t,w⟩:=sF (show (tr u n v).e.isSome=true by rw [s];rfl);exact Ak i h.nd ((g v).e J s) (h.get qi) (h.loc P) (i5 l t w) (.inl (r x))
    split at q
    .rename_i B S;split at q
     .obtain⟨a,s,rfl⟩:=am q;unfold B_ at S;split at S
      .cases S;exact Ak i h.nd (BS (fX (fun e _=>g e) s).1) (h.get qi) (h.loc P) rfl (.inl (r x))
      .cases S
     .exact plain q
    .exact plain q
   .cases q
  .rename_i o i W v K;split at q
   .rename_i Q;obtain⟨c,p,rfl⟩:=m7 Q;obtain⟨x,s,q⟩:=al q;obtain⟨y,j,q⟩:=al q;split at q
    .cases q
    .rename_i m;obtain⟨z,H,rfl⟩:=am q;have l:∀a b c d,v≠.ListComp a b c d:=ju (by simpa using m);obtain⟨t,w⟩:=IX H l;exact EN (by have:=h.hu;lia) ((g o).e x s) (fX (fun e _=>g e) j).1 ((g v).v z H) (i5 l t w)
   obtain⟨x,s,q⟩:=al q;obtain⟨y,j,q⟩:=al q;split at q
   .cases q
   .rename_i m;obtain⟨z,H,rfl⟩:=am q;have l:∀a b c d,v≠.ListComp a b c d:=ju (by simpa using m);obtain⟨t,w⟩:=IX H l;exact ER (by have:=h.hu;lia) ((g o).e x s) ((g i).v y j) ((g v).v z H) (i5 l t w) rfl (sw (by rw [j];rfl))
  .rename_i o f U v K;split at q
   .rename_i hd;rw [Bool.and_eq_true] at hd;obtain⟨p,rfl⟩:=Bo hd.1;obtain⟨x,s,rfl⟩:=am q;exact ET h.attrs ((g o).e x s) Cv (i5 (fun _ _ _ _ z=>nomatch z) (fun _ _ _ _ z=>nomatch z) fun _ _ _ _ _ z=>nomatch z)
   split at q
   .cases q
   .rename_i m;obtain⟨x,s,q⟩:=al q;obtain⟨z,j,rfl⟩:=am q;obtain⟨t,w⟩:=BX j;exact ET h.attrs ((g o).e x s) (x3 h n 5 j) (i5 (ju (by simpa using m)) t w)
  .rename_i B c p v K;split at q
   .cases q
   .rename_i m;rw [iX,not_or] at m;obtain⟨R,s,q⟩:=al q;obtain⟨z,H,rfl⟩:=am q;have l:∀a b c d,v≠.ListComp a b c d:=ju (by simpa using m.1);obtain⟨t,w⟩:=IX H l;exact Ir ((g v).v z H) (tg_ok h.calm h.hN h.nd (fun x D=>⟨h.loc D,.inl (r x)⟩) s) (show swapsWith v (some (.Tuple B c p)) K.line X.env=pure false from i5 l t w) (yP (by simpa using m.2)) rfl
  .obtain⟨x,s,rfl⟩:=am q;exact Iu ((g _).e x s)
  .split at q
   .cases q
   .rename_i m;obtain⟨x,s,rfl⟩:=am q;obtain⟨t,w⟩:=sF (by rw [s];rfl);exact EU ((g _).e x s) (i5 (ju (by simpa using m)) t w)
  .obtain⟨c,s,q⟩:=al q;obtain⟨x,j,q⟩:=al q;obtain⟨y,H,rfl⟩:=am q;exact KE ((g _).b c s) (ki G j) (ki G H)
  .obtain⟨R,T,q⟩:=al q;obtain⟨Y,s,q⟩:=al q;obtain⟨b,j,rfl⟩:=am q;exact Iy N h.calm (B7 h g s) (tg_ok h.calm h.hN h.nd (fun x D=>⟨h.loc D,.inl (r x)⟩) T) (ki G j) fun x=>sP s _ x
  .cases q;exact KH
  .cases q;exact KG
  .cases q
structure Df where
 name:Str
 short:Str
 cls:Str
 st:Stmt
 N:LS
 ps:LS
 own:LS
 deep:LS
 refs:LS
noncomputable abbrev At:=List (Str×LS)
noncomputable def aT (T:At) (c f:Str):Bool:=T.any fun x=>decide (x.1=c) && x.2.contains f
noncomputable def fT (D:List Df) (h:Str->GF) (x:Str):Option GF:=if (D.any fun d=>decide (d.name=x) && d.cls.cps.isEmpty)=true then some (h x) else none
noncomputable def B9 (c m:Str) (d:Df):Bool:=decide (d.cls=c) && decide (d.short=m) && !d.cls.cps.isEmpty
noncomputable def mT (D:List Df) (h:Str->GF) (c m:Str):Option GF:=if m=("__init__":Str) then none else (D.find? (B9 c m)).map fun d=>h d.name
noncomputable def JL (D:List Df) (h:Str->GF) (c:Str):Option GF:=(D.find? (B9 c "__init__")).map fun d=>h d.name
noncomputable abbrev P3:=(Str->GF)×(Str->Option GF)
noncomputable def JN (G:Str->Option P) (T:At) (D:List Df) (p:P3) (d:Df):Cn:=⟨d.N,d.own,d.deep,d.refs,(ai d.st).names,fT D p.1,G,aT T,mT D p.1,p.2⟩
noncomputable def rL (G:Str->Option P) (T:At) (D:List Df) (p:P3) (d:Df):ES:=(ut (CJ (JN G T D p d) 60) (aq d.st)).getD CZ
noncomputable def rR (G:Str->Option P) (T:At) (D:List Df):Nat->P3
 | 0=>(fun _ _ _=>none,fun _=>none)
 | n+1=>(fun x=>match D.find? fun d=>decide (d.name=x) with
  | some d=>cI d.ps.length d.N.length (rL G T D (rR G T D n) d)
  | none=>fun _ _=>none,JL D (rR G T D n).1)
noncomputable def Hj (G:Str->Option P) (T:At) (D:List Df) (n:Nat):Str->GF:=(rR G T D n).1
noncomputable def HB (d:Df):Bool:=decide ((ai d.st).kind=.function) && !(ai d.st).isCoroutine && !(ai d.st).isGenerator && decide d.N.Nodup && decide (d.N.take d.ps.length=d.ps)
 && d.ps.all (fun x=>(ai d.st).names.lookup x == some .local || (ai d.st).names.lookup x == some .cell) && (ai d.st).names.all (fun y=>y.2 != .free)
theorem CY (h:HB d=true):FnScope d.N d.ps (ai d.st):=by
 unfold HB at h;simp only [Bool.and_eq_true] at h;obtain⟨⟨⟨⟨⟨⟨a,e⟩,s⟩,n⟩,k⟩,f⟩,b⟩:=h;refine⟨of_decide_eq_true a,by simpa using e,by simpa using s,of_decide_eq_true n,of_decide_eq_true k,fun x c=>?_,fun y m=>?_⟩
 .have:=bq.mp f x c;simpa using this
 .have:=bq.mp b y m;simpa using this
structure DOk (K:FG) (mg:SV) (d:Df) (f:Addr) (fd:FuncData):Prop where
 fn:Fun K d.short d.name d.st f fd
 bd:Binds K fd d.ps []
 gl:d.cls.cps.isEmpty=true->mg d.name=some (.ref f)
 cl:d.cls.cps.isEmpty=false->∃C,iP K d.cls C/\mg d.cls=some (.ref C)/\Cls K C/\(d.short=("__init__":Str)->Mk K C f)/\(d.short≠("__init__":Str)->Meth K C d.short f)
structure TOk (w:World) (G:Str->Option P) (T:At) (D:List Df) (K:FG) (mg:SV):Prop where
 fn:∀d ∈ D,∃f fd,DOk K mg d f fd
 sc:D.all HB=true
 un:(D.map (·.name)).Nodup
 z:∀x ∈ BJ,mg x=none
 gl:∀x v,G x=some v->mQ w K mg x v
 at':Iq K (aT T)
theorem nL:∀{D:List Df}{d:Df},(D.map (·.name)).Nodup->d ∈ D->(D.find? fun e=>decide (e.name=d.name))=some d
 | [],_,_,h=>by cases h
 | a::r,d,x,h=>by
  rw [List.map_cons,List.nodup_cons] at x;rcases av.mp h with h | h
  .subst h;simp
  .have n:¬a.name=d.name:=fun z=>x.1 (by rw [z];exact cu.mpr ⟨d,h,rfl⟩);rw [List.find?_cons_of_neg (by simpa using n)];exact nL x.2 h
theorem z8 {D:List Df}{x:Str}{a:Str->GF}{g:GF} (h:fT D a x=some g):∃d ∈ D,d.name=x/\d.cls.cps.isEmpty=true/\g=a x:=by
 unfold fT at h;split at h
 .rename_i c;cases h;obtain⟨d,hd,e⟩:=pM.mp c;rw [Bool.and_eq_true] at e;exact⟨d,hd,of_decide_eq_true e.1,e.2,rfl⟩
 .cases h
theorem zl (h:B9 c m d=true):d.cls=c/\d.short=m/\d.cls.cps.isEmpty=false:=by unfold B9 at h;simp only [Bool.and_eq_true] at h;exact⟨of_decide_eq_true h.1.1,of_decide_eq_true h.1.2,by simpa using h.2⟩
theorem z9 {D:List Df}{x:Str->GF}{c m:Str}{g:GF} (h:mT D x c m=some g):m≠("__init__":Str)/\∃d ∈ D,d.cls=c/\d.short=m/\d.cls.cps.isEmpty=false/\g=x d.name:=by
 unfold mT at h;split at h
 .cases h
 .rename_i n;obtain⟨d,q,rfl⟩:=am h;obtain⟨a,e,s⟩:=zl (pL q);exact⟨n,d,pZ q,a,e,s,rfl⟩
theorem z_ {D:List Df}{x:Str->GF}{c:Str}{g:GF} (h:JL D x c=some g):∃d ∈ D,d.cls=c/\d.short=("__init__":Str)/\d.cls.cps.isEmpty=false/\g=x d.name:=by unfold JL at h;obtain⟨d,q,rfl⟩:=am h;obtain⟨a,e,s⟩:=zl (pL q);exact⟨d,pZ q,a,e,s,rfl⟩
theorem wg {G:Str->Option P}{T:At}{D:List Df}{Pg:Program}{w:World}{K:FG}{mg:SV}{base:Heap} (Tk:TOk w G T D K mg):∀n,(∀d ∈ D,
  ∀f fd,Fun K d.short d.name d.st f fd->FnOk Pg w K mg base pG n f fd d.ps (oj K (Hj G T D n d.name))) /\
  ∀c g,(rR G T D n).2 c=some g->∃m,n=m+1/\∃C f fd ps,iP K c C/\mg c=some (.ref C)/\Mk K C f/\FnOk Pg w K mg base pG m f fd ps (oj K g)/\Binds K fd ps []
 | 0=>⟨fun d hd f fd hF=>zD,fun c g h=>(by cases (show (none:Option GF)=some g from h))⟩
 | n+1=>by
  have ih:=wg (Pg:=Pg) (w:=w) (base:=base) Tk n;refine⟨fun d hd f fd hF=>?_,fun c g h=>?_⟩
  .have e:Hj G T D (n+1) d.name=cI d.ps.length d.N.length (rL G T D (rR G T D n) d):=by
    show (match D.find? fun d'=>decide (d'.name=d.name) with | some d=>cI d.ps.length d.N.length (rL G T D (rR G T D n) d) | none=>fun _ _=>none)=_;rw [nL Tk.un hd]
   rw [e];have hsc:=CY (bq.mp Tk.sc d hd);have XO:∀(cdv:Value) (A:Around) (outer:List Env) (s:Shared) (H:Hp) (E':XK),Room n (A.deeper (envOfC d.name (ai d.st) s.heap.objs.size f cdv)) ->
     XOk (JN G T D (rR G T D n) d) (tN pG Pg w K mg base d.N d.name (ai d.st) f cdv A outer s H E').nox:=fun cdv A outer s H E' hr=>{
    hN:=rfl
    nd:=hsc.nd
    ks:=rfl
    kd:=hsc.kind
    calm:=rfl
    hu:=by have:=hr.un;show (A.deeper (envOfC d.name (ai d.st) s.heap.objs.size f cdv)).units+64 < _;lia
    fns:=fun x g hg=>by obtain⟨d',hd',hn,hc,rfl⟩:=z8 hg;obtain⟨f',fd',h1⟩:=Tk.fn d' hd';subst hn;exact⟨n,f',fd',d'.ps,(ih.1 d' hd' f' fd' h1.fn),hr,h1.gl hc,h1.fn.kp,h1.bd⟩
    blt:=Tk.z
    glb:=Tk.gl
    attrs:=Tk.at'
    meths:=fun c m g hg=>by obtain⟨hm,d',hd',rfl,rfl,hc,rfl⟩:=z9 hg;obtain⟨f',fd',h1⟩:=Tk.fn d' hd';obtain⟨C,c1,c2,c3,c4,c5⟩:=h1.cl hc;exact⟨C,n,f',fd',d'.ps,c1,c3,c5 hm,(ih.1 d' hd' f' fd' h1.fn),hr,h1.bd⟩
    mks:=fun c g hg=>by obtain⟨m,rfl,C,f',fd',ps,c1,c2,c3,c4,c5⟩:=ih.2 c g hg;exact⟨C,m,f',fd',ps,c1,c2,c3,c4,hr,c5⟩ }
   refine D7 (N:=d.N) hF hsc fun cdv A outer s H E' hr=>?_;have X:=XO cdv A outer s H E' hr;unfold rL;cases q:ut (CJ (JN G T D (rR G T D n) d) 60) (aq d.st) with
   | none=>exact wS.imp' fun D σ H hz=>by obtain⟨F,m,L,S,fl,L',S',r,l,q,k⟩:=hz;cases q
   | some b=>exact ki (fun st f q=>xZ X (fun _=>rfl) PassesOwn.never 60 st f q) q
  .obtain⟨d,hd,rfl,hs,hc,rfl⟩:=z_ (x:=(rR G T D n).1) h;obtain⟨f,fd,h1⟩:=Tk.fn d hd;obtain⟨C,c1,c2,c3,c4,c5⟩:=h1.cl hc;exact⟨n,rfl,C,f,fd,d.ps,c1,c2,c4 hs,(ih.1 d hd f fd h1.fn),h1.bd⟩
theorem sS:∀s:List Int,b9 K F H (s.map .int) (s.map V.int)
 | []=>rfl
 | n::r=>⟨_,_,rfl,rfl,sS r⟩
theorem DT {K:FG}{H:Hp}{a:Addr}{n:List Int}{g:GF}{E:XK} (O:xI H) (S:gL K H a (n.map V.int)) (h:pureOf g [.ro (n.map .int)]=some (.bl true)):oj K g [.ref a] H (fun v _=>v=.bl true) E:=by
 refine ng ⟨fun b=>b=a/\H a≠none,[.ro (n.map .int)],.bl true,fun b x=>(by rw [x.1];exact x.2),⟨_,_,rfl,⟨a,_,rfl,?_,sS n⟩,rfl⟩,h,fun v F s _ r=>r⟩;rcases S with S | S
 .rcases O a with z | ⟨o,k,z⟩
  .rcases S with S | ⟨o,S⟩ <;> rw [z] at S <;> cases S
  .rcases S with S | ⟨e,S⟩
   .rw [z] at S;cases S
   .exact .inl ⟨⟨rfl,by rw [z];exact fun q=>nomatch q⟩,e,S⟩
 .exact .inr (.inr S)
open PySem L2
section
variable (L:Lc) (S:aF)
@[simp] theorem J8 (v:P):vC v L S=some (v,S):=rfl
@[simp] theorem HZ (i:Nat):aa i L S=match L[i]? with | some (some d)=>some (d,S) | _=>none:=rfl
@[simp] theorem m5 (f:EE):vE f L S=aH (f L S) (toP 9):=rfl
@[simp] theorem s_ (f:EV):eV f L S=aH (f L S) fun v h=>some (.p v,h):=rfl
@[simp] theorem CD (g:P->P->Option P) (a b:EV):ac g a b L S=aH (a L S) fun x h=>aH (b L h) fun y t=>(g x y).map fun v=>(v,t):=rfl
@[simp] theorem IY (g:P->Option P) (a:EV):CC g a L S=aH (a L S) fun x h=>(g x).map fun v=>(v,h):=rfl
@[simp] theorem Kx (a:EV):bV a L S=aH (a L S) fun x h=>match x with | .bl b=>some (b,h) | _=>none:=rfl
@[simp] theorem Ij (a b:EB):gi a b L S=aH (a L S) fun c h=>if c=true then b L h else some (false,h):=rfl
@[simp] theorem JX (a b:EB):wv a b L S=aH (a L S) fun c h=>if c=true then some (true,h) else b L h:=rfl
@[simp] theorem Ii (a:EB):mu a L S=aH (a L S) fun c h=>some (!c,h):=rfl
@[simp] theorem Ih:dZ L S=some (true,S):=rfl
@[simp] theorem J9 (a:EB):vB a L S=aH (a L S) fun c h=>some (.bl c,h):=rfl
@[simp] theorem I0 (c:EB) (a b:EV):BV c a b L S=aH (c L S) fun k h=>if k=true then a L h else b L h:=rfl
@[simp] theorem Fc:aW L S=some ([],S):=rfl
@[simp] theorem wD (a:EV) (r:fN):aO a r L S=aH (a L S) fun x h=>aH (r L h) fun s t=>some (x::s,t):=rfl
@[simp] theorem Hr (a:fN):aD a L S=aH (a L S) fun x h=>if few x=true then some (.tup x,h) else none:=rfl
@[simp] theorem Hv (a:fN):a_ a L S=aH (a L S) fun x h=>if few x=true then some (.lst x,h) else none:=rfl
@[simp] theorem H0 (a:fN):cS a L S=aH (a L S) fun x h=>if few x=true then some (.ref h.length,h++[.lst (x.map .p)]) else none:=rfl
@[simp] theorem xV (g:List P->Option P) (a:fN):ah g a L S=aH (a L S) fun x h=>(g x).map fun v=>(v,h):=rfl
@[simp] theorem Av (r:EE):dR r L S=aH (r L S) fun d h=>match cd d h with | some n=>some (.int (n:Int),h) | none=>none:=by
 unfold dR;cases r L S with
 | none=>rfl
 | some z=>obtain⟨d,h⟩:=z;rw [aA,aA];cases cd d h <;> rfl
@[simp] theorem Fe (r:EE):vq r L S=aH (r L S) fun d h=>match yb d h with | some s=>(jj s).map fun v=>(v,h) | none=>none:=rfl
@[simp] theorem IZ (a:EV):Er a L S=aH (a L S) fun v h=>match v with | .int s=>if decide (s.natAbs < 1000000)=true then some (.lst (intsFrom 0 s.toNat),h) else none | _=>none:=rfl
@[simp] theorem Ht (a:EV) (lo h:EO):im a lo h L S=aH (a L S) fun x e=>aH (lo L e) fun i t=>aH (h L t) fun j s=>(zP x i j).map fun v=>(v,s):=rfl
@[simp] theorem Ff (a b c:EV):vr a b c L S=aH (a L S) fun d h=>aH (b L h) fun y t=>aH (c L t) fun z x=>match d with
 | .dct s v=>match bZ y with
  | some k=>some ((bI k s v).getD z,x)
  | none=>none
 | _=>none:=rfl
@[simp] theorem Jl:eJ L S=some (.nx,L,S):=rfl
@[simp] theorem Jo:HF L S=some (.bk,L,S):=rfl
@[simp] theorem Jn:HE L S=some (.ct,L,S):=rfl
@[simp] theorem mH (f g:ES):ae f g L S=match f L S with | some (.nx,L1,s)=>g L1 s | r=>r:=rfl
@[simp] theorem dI (i:Nat) (f:EE):au i f L S=aH (f L S) fun d h=>some (.nx,L.set i (some d),h):=rfl
@[simp] theorem mI (f:EE):aL f L S=aH (f L S) fun d h=>some (.rt d,L,h):=rfl
@[simp] theorem km (f:EE):ci f L S=aH (f L S) fun _ h=>some (.nx,L,h):=rfl
@[simp] theorem ip (c:EB) (a b:ES):eA c a b L S=aH (c L S) fun k h=>if k=true then a L h else b L h:=rfl
@[simp] theorem eO (i:fN) (g:iK) (b:ES):cN i g b L S=aH (i L S) fun x h=>br g b x L h:=rfl
@[simp] theorem HV (i:Nat) (v:P):ak i v L=some (L.set i (some (.p v))):=rfl
@[simp] theorem i' (a:EV):iR a L S=aH (a L S) fun v h=>match v with | .lst s=>some (s,h) | .ro s=>some (s,h) | .tup s=>some (s,h) | .str x=>if (x.cps.all (· < 128))=true then some (signs x,h) else none | _=>none:=rfl
@[simp] theorem Hs (a:EV) (lo h st:EO):Au a lo h st L S=aH (a L S) fun x e=>aH (lo L e) fun i t=>aH (h L t) fun j s=>aH (st L s) fun c n=>match x,c with
 | .lst k,some c=>if c=0 then none else some (.lst (jJ k i j (some c)),n)
 | _,_=>none:=rfl
@[simp] theorem ji (r:EE) (k:EV):tf r k L S=aH (r L S) fun d h=>aH (k L h) fun y t=>match d with
 | .p v=>(ar v y).map fun z=>(.p z,t)
 | .ref i=>match t[i]? with
  | some (.lst s)=>(match y with
   | .int j=>(L2.atI s j).map fun z=>(z,t)
   | _=>none)
  | some (.fz v)=>(ar v y).map fun z=>(.p z,t)
  | some (.dct x a)=>(match bZ y with
   | some k=>(bI k x a).map fun z=>(z,t)
   | none=>none)
  | _=>none:=rfl
@[simp] theorem j6 (r a:EE):bS r a L S=aH (r L S) fun d h=>match dt d h with
 | none=>none
 | some _=>aH (a L h) fun x t=>match dt d t with
  | some (i,s)=>if few s=true then some (.p .non,t.set i (.lst (s++[x]))) else none
  | none=>none:=rfl
end
variable {p:Type}
@[simp] theorem lz (x:List p):(few x=true)=(x.length≤1000000):=by unfold few;simp
@[simp] theorem kG (n:Nat):(fS n=true)=(n≤1000000):=by unfold fS;simp
theorem be {p:Type}{s:List p}{i:Int}{x:p} (a:0≤i) (h:s[i.toNat]? = some x):L2.atI s i=some x:=by have l:=(List.getElem?_eq_some_iff.mp h).1;unfold L2.atI L2.xc;rw [if_pos a,if_pos (by lia)];exact h
@[simp] theorem Hg (x:p) (s:List p):L2.atI (x::s) 0=some x:=be (by lia) rfl
@[simp] theorem Il (x y:p) (s:List p):L2.atI (x::y::s) 1=some y:=be (by lia) rfl
@[simp] theorem Ik (x y z:p) (s:List p):L2.atI (x::y::z::s) 2=some z:=be (by lia) rfl
@[simp] theorem EK (x y z w:p) (s:List p):L2.atI (x::y::z::w::s) 3=some w:=be (by lia) rfl
@[simp] theorem Ib (x:List P) (i:Int):ar (.tup x) (.int i)=L2.atI x i:=rfl
@[simp] theorem Ic (x:List P) (i:Int):ar (.lst x) (.int i)=L2.atI x i:=rfl
@[simp] theorem JU (x:List P) (i:Int):ar (.ro x) (.int i)=L2.atI x i:=rfl
@[simp] theorem Ie (k:List bC) (v:List P) (x:Str):ar (.dct k v) (.str x)=bI (.inr x) k v:=rfl
@[simp] theorem G' (i j:Int):u7 (.int i) (.int j)=some (.bl (decide (i=j))):=rfl
@[simp] theorem G_ (i j:Str):u7 (.str i) (.str j)=some (.bl (decide (i=j))):=rfl
@[simp] theorem Ig (i j:Bool):u7 (.bl i) (.bl j)=some (.bl (decide (i=j))):=rfl
@[simp] theorem Ia (i j:Int):Eb (.int i) (.int j)=some (.bl (!decide (i=j))):=rfl
@[simp] theorem H_ (i j:Str):Eb (.str i) (.str j)=some (.bl (!decide (i=j))):=rfl
@[simp] theorem JT (i j:Bool):Eb (.bl i) (.bl j)=some (.bl (!decide (i=j))):=rfl
@[simp] theorem Ha (i j:Int):rF (.int i) (.int j)=some (.int (i+j)):=rfl
@[simp] theorem G7 (i j:Int):rD (.int i) (.int j)=if eZ i j=true then some (.int (i * j)) else none:=rfl
@[simp] theorem G6 (i:Int):u5 (.int i)=some (.int (-i)):=rfl
theorem ag (e n:Nat) (b:ES) (ps:List P):pureOf (cI e n b) ps=if ps.length=e then match b (ps.map (fun p=>some (.p p))++List.replicate (n-ps.length) none) [] with
 | some (.rt d,_,S)=>(toP 9 d S).map (·.1)
 | some (.nx,_,_)=>some .non
 | _=>none else none:=by
 unfold pureOf cI;rw [bu,mD];by_cases h:ps.length=e
 .rw [if_pos h,if_pos h];show (match (match b (ps.map (fun p=>some (D.p p))++List.replicate (n-ps.length) none) [] with
   | some (.rt d,_,a)=>some (d,a)
   | some (.nx,_,a)=>some (.p .non,a)
   | _=>none:Option (D×aF)) with
   | some (d,S)=>(toP 9 d S).map (fun (x:P×aF)=>x.1)
   | none=>none)=_
  cases b (ps.map (fun p=>some (D.p p))++List.replicate (n-ps.length) none) [] with
  | none=>rfl
  | some z=>obtain⟨f,L,S⟩:=z;cases f <;> simp
 .rw [if_neg h,if_neg h]
variable {v:P}{r:List P}{L:Lc}{L1:Lc}{S:aF}{t:aF}
theorem cm (h:g v L=some L1) (x:b L1 S=some (.nx,L2,t)):br g b (v::r) L S=br g b r L2 t:=by simp [br,h,x]
theorem zC (h:g v L=some L1) (x:b L1 S=some (.ct,L2,t)):br g b (v::r) L S=br g b r L2 t:=by simp [br,h,x]
theorem nK (h:g v L=some L1) (x:b L1 S=some (.rt d,L2,t)):br g b (v::r) L S=some (.rt d,L2,t):=by simp [br,h,x]
section
variable (L:Lc) (S:aF)
@[simp] theorem Hu (g:D->D->aF->Option P) (a b:EE):aE g a b L S=aH (a L S) fun x h=>aH (b L h) fun y t=>(g x y t).map fun v=>(v,t):=rfl
@[simp] theorem Ky (a:EE):bT a L S=aH (a L S) fun d h=>(xX d h).map fun b=>(b,h):=rfl
@[simp] theorem Es (g h:P->P->Option P) (a b c:EV):lh g h a b c L S=aH (a L S) fun x e=>aH (b L e) fun y t=>match g x y with
 | some (.bl true)=>aH (c L t) fun z s=>(h y z).map fun v=>(v,s)
 | some (.bl false)=>some (.bl false,t)
 | _=>none:=rfl
@[simp] theorem zc (a:EV):v0 a L S=aH (a L S) fun v h=>match v with | .lst s=>some (b_ 0 s,h) | .ro s=>some (b_ 0 s,h) | _=>none:=rfl
@[simp] theorem Bm (a:EV):g0 a L S=aH (a L S) fun x h=>match x with | .int n=>if (decide (n.natAbs < 1000000))=true then some (intsFrom 0 n.toNat,h) else none | _=>none:=by
 unfold g0;cases a L S with
 | none=>rfl
 | some z=>obtain⟨x,h⟩:=z;cases x <;> first | rfl | simp
@[simp] theorem Bk (a b:EV):Bl a b L S=aH (a L S) fun x e=>aH (b L e) fun y t=>match x,y with
 | .int lo,.int h=>if (decide (lo.natAbs < 1000000) && decide (h.natAbs < 1000000))=true then some (intsFrom lo (h-lo).toNat,t) else none
 | _,_=>none:=rfl
@[simp] theorem uX (r:EE) (a:EV):dn r a L S=aH (r L S) fun d h=>match dt d h with
 | none=>none
 | some _=>aH (a L h) fun x t=>match dt d t,x with
  | some (i,s),.lst y=>if fS (s.length+y.length)=true then some (.p .non,t.set i (.lst (s++y.map .p))) else none
  | _,_=>none:=rfl
@[simp] theorem G2:aY L S=some ([],S):=rfl
@[simp] theorem EA (a:EE) (r:oa):ab a r L S=aH (a L S) fun x h=>aH (r L h) fun s t=>some (x::s,t):=rfl
@[simp] theorem xq (g:GF) (a:oa):fR g a L S=aH (a L S) fun d h=>g d h:=rfl
@[simp] theorem oW (g:GF) (a:oa):b7 g a L S=aH (a L S) fun s h=>aH (g s h) fun d t=>aH (toP 9 d t) fun v x=>some (v,trunc h.length x):=rfl
@[simp] theorem Hw (T:String) (f:EE):xU T f L S=aH (f L S) fun d h=>(xf T d h).map fun b=>(.bl b,h):=rfl
@[simp] theorem HC (g:iK) (f:EV):ni g f L S=aH (f L S) fun v h=>match g v L with | some s=>some (.nx,s,h) | none=>none:=rfl
@[simp] theorem GR (g:List iK) (v:List P):bn g (.tup v) L=nH g v L:=rfl
@[simp] theorem GP:nH [] [] L=some L:=rfl
@[simp] theorem Ex (g:iK) (s:List iK) (v:P) (h:List P):nH (g::s) (v::h) L=match g v L with | some L1=>nH s h L1 | none=>none:=rfl
@[simp] theorem JK (T:String) (v:P):xf T (.p v) S=some (jE T v):=rfl
@[simp] theorem I_ (v:P):xX (.p v) S=ur v:=rfl
@[simp] theorem Hy (b:Bool):ur (.bl b)=some b:=rfl
@[simp] theorem Fg (i:Int):ur (.int i)=some (i != 0):=rfl
@[simp] theorem Kg (x y:P):eC (.p x) (.p y) S=(Ag x y).map .bl:=rfl
@[simp] theorem Kf (x y:P):ou (.p x) (.p y) S=(w4 x y).map .bl:=rfl
end
@[simp] theorem HY (i j:Int):Ag (.int i) (.int j)=some (decide (i=j)):=rfl
@[simp] theorem HX (i j:Str):Ag (.str i) (.str j)=some (decide (i=j)):=rfl
@[simp] theorem JR (i j:Bool):Ag (.bl i) (.bl j)=some (decide (i=j)):=rfl
@[simp] theorem HQ (i j:Int):w4 (.int i) (.int j)=some (!decide (i=j)):=rfl
@[simp] theorem HP (i j:Str):w4 (.str i) (.str j)=some (!decide (i=j)):=rfl
@[simp] theorem JE (i j:Bool):w4 (.bl i) (.bl j)=some (!decide (i=j)):=rfl
@[simp] theorem EJ (i j:Int):aC (.int i) (.int j)=some (.int (i+j)):=rfl
@[simp] theorem EH (x y:Str):aC (.str x) (.str y)=rF (.str x) (.str y):=rfl
@[simp] theorem EI (x y:List P):aC (.lst x) (.lst y)=if fS (x.length+y.length)=true then some (.lst (x++y)) else none:=rfl
@[simp] theorem EG (i j:Int):dq (.int i) (.int j)=if eZ i j=true then some (.int (i * j)) else none:=rfl
@[simp] theorem EF (x:List P) (n:Int):dq (.lst x) (.int n)=if (fS (x.length * n.toNat) && decide (n.natAbs < 1000000))=true then some (.lst (List.replicate n.toNat x).flatten) else none:=rfl
@[simp] theorem EC (x:List P) (n:Int):dq (.tup x) (.int n)=if (fS (x.length * n.toNat) && decide (n.natAbs < 1000000))=true then some (.tup (List.replicate n.toNat x).flatten) else none:=rfl
@[simp] theorem ED (x:Str) (n:Int):dq (.str x) (.int n)=rD (.str x) (.int n):=rfl
theorem yQ (h:cc 20 v=true):w4 v v=some false:=by
 unfold w4;have e:PyData.eqv (pd v) (pd v)=true:=PySem.SeqAt.eqv_refl _ (fB 20 v h).1;cases q:Eb v v with
 | none=>simp [h,e]
 | some z=>
  cases v with
  | int i=>cases q;simp
  | str i=>cases q;simp
  | bl i=>cases q;simp
  | non=>cases q
  | tup _=>cases q
  | lst _=>cases q
  | ro _=>cases q
  | dct _ _=>cases h
theorem qL (h:cc 20 (.lst s)=true):Ag (.lst s) (.lst [])=some s.isEmpty:=by
 unfold Ag;have e:cc 20 (.lst [])=true:=rfl;show (if (cc 20 (.lst s) && cc 20 (.lst []))=true then some (PyData.eqv (pd (.lst s)) (pd (.lst []))) else none)=_;rw [h,e];cases s with
 | nil=>rfl
 | cons x r=>simp [pd,ma,PyData.eqv,PyData.eqvAll]
theorem kt (h:cc 20 (.lst s)=true):w4 (.lst s) (.lst [])=some (!s.isEmpty):=by
 unfold w4;have e:cc 20 (.lst [])=true:=rfl;show (if (cc 20 (.lst s) && cc 20 (.lst []))=true then some (!PyData.eqv (pd (.lst s)) (pd (.lst []))) else none)=_;rw [h,e];cases s with
 | nil=>rfl
 | cons x r=>simp [pd,ma,PyData.eqv,PyData.eqvAll]
section
variable (L:Lc) (S:aF)
@[simp] theorem Bw (A:Str->Str->Bool) (o:EE) (f:Str):dD A o f L S=aH (o L S) fun d h=>match d with
 | .ref i=>match h[i]? with
  | some (.ins c k s)=>if A c f=true then (gE f k s).map fun z=>(z,h) else none
  | _=>none
 | _=>none:=rfl
@[simp] theorem HD (A:Str->Str->Bool) (o:EE) (f:Str) (v:EE):kl A o f v L S=aH (v L S) fun y h=>aH (o L h) fun d t=>match d with
 | .ref i=>match t[i]? with
  | some (.ins c k s)=>if (A c f && decide (k.length < 900))=true then some (.nx,L,t.set i (.ins c (putK f k) (np f y k s))) else none
  | _=>none
 | _=>none:=rfl
@[simp] theorem hV (M:Str->Str->Option GF) (o:EE) (m:Str) (Q:oa):dm M o m Q L S=aH (o L S) fun d h=>match d with
 | .ref i=>match h[i]? with
  | some (.ins c k _)=>match M c m with
   | some g=>if k.contains m=true then none else aH (Q L h) fun v t=>g (.ref i::v) t
   | none=>none
  | _=>none
 | _=>none:=rfl
@[simp] theorem G0 (g:GF) (c:Str) (Q:oa):nQ g c Q L S=aH (Q L S) fun v h=>match g (.ref h.length::v) (h++[.ins c [] []]) with
 | some (.p .non,t)=>some (.ref h.length,t)
 | _=>none:=rfl
end
section
variable (L:Lc) (S:aF)
@[simp] theorem Hx (a f:EV):oe a f L S=aH (a L S) fun v h=>match v with
 | .lst p=>aH (f L h) fun y t=>(j4 p y).map fun (i:Nat)=>(.int (i:Int),t)
 | .tup p=>aH (f L h) fun y t=>(j4 p y).map fun (i:Nat)=>(.int (i:Int),t)
 | _=>none:=rfl
@[simp] theorem Ez:qS L S=some (.ref S.length,S++[.dtt [] []]):=rfl
@[simp] theorem we (o:EE) (k:fN):uW o k L S=aH (o L S) fun d h=>aH (k L h) fun ps t=>match iq d t,ck ps with
 | some (_,s,v),some e=>if few ps=true then (bQ e s v).map fun z=>(z,t) else none
 | _,_=>none:=rfl
@[simp] theorem ti (o:EE) (k:fN):tj o k L S=aH (o L S) fun d h=>match iq d h with
 | none=>none
 | some _=>aH (k L h) fun p t=>match iq d t,ck p with
  | some (_,s,v),some e=>if few p=true then some ((bQ e s v).getD (.p .non),t) else none
  | _,_=>none:=rfl
@[simp] theorem FK (o:EE) (k:fN) (v:EV):vI o k v L S=aH (v L S) fun y a=>aH (o L a) fun d t=>aH (k L t) fun ps h=>match iq d h,ck ps with
 | some (i,s,x),some e=>if (s.Nodup/\few s=true/\few ps=true) then some (.nx,L,h.set i (.dtt (cL e (.p y) s x).1 (cL e (.p y) s x).2)) else none
 | _,_=>none:=rfl
@[simp] theorem nP (o:EE) (k:EV) (d:EE):mO o k d L S=aH (o L S) fun x a=>match jD x a with
 | none=>none
 | some _=>aH (k L a) fun z t=>aH (d L t) fun y h=>match jD x h,bZ z with
  | some (i,s,v),some e=>if (s.Nodup/\few s=true) then match bQ e s v with
    | some w=>some (w,h)
    | none=>some (y,h.set i (.dct (cL e y s v).1 (cL e y s v).2))
   else none
  | _,_=>none:=rfl
@[simp] theorem Ey (f b:EV):qR f b L S=aH (f L S) fun x h=>aH (b L h) fun y t=>match x,y with
 | .lst s,.tup v=>match ck s with
  | some k=>if (k.Nodup/\few s=true/\k.length≤v.length) then some (.ref t.length,t++[.dct k ((v.take k.length).map .p)]) else none
  | none=>none
 | _,_=>none:=rfl
end
section
variable {L:Lc}{S:aF}
@[simp high] theorem Ly (d:D) :aa 0 (some d::L) S=some (d,S):=rfl
@[simp high] theorem Lx (d:D) (a:Option D):aa 1 (a::some d::L) S=some (d,S):=rfl
@[simp high] theorem Lw (d:D) (a h:Option D):aa 2 (a::h::some d::L) S=some (d,S):=rfl
@[simp high] theorem Lv (d:D) (a h x:Option D):aa 3 (a::h::x::some d::L) S=some (d,S):=rfl
@[simp high] theorem Lu (d:D) (a h x e:Option D):aa 4 (a::h::x::e::some d::L) S=some (d,S):=rfl
@[simp high] theorem Ls (d:D) (a h x e s:Option D):aa 5 (a::h::x::e::s::some d::L) S=some (d,S):=rfl
@[simp high] theorem Lr (d:D) (a h x e s n:Option D):aa 6 (a::h::x::e::s::n::some d::L) S=some (d,S):=rfl
@[simp high] theorem Lq (d:D) (a h x e s n k:Option D):aa 7 (a::h::x::e::s::n::k::some d::L) S=some (d,S):=rfl
@[simp high] theorem Lp (d:D) (a h x e s n k f:Option D):aa 8 (a::h::x::e::s::n::k::f::some d::L) S=some (d,S):=rfl
@[simp high] theorem Lo (d:D) (a h x e s n k f b:Option D):aa 9 (a::h::x::e::s::n::k::f::b::some d::L) S=some (d,S):=rfl
@[simp high] theorem Kt (d:D) (a h x e s n k f b c:Option D):aa 10 (a::h::x::e::s::n::k::f::b::c::some d::L) S=some (d,S):=rfl
@[simp high] theorem Ks (d:D) (h x e s n k f b c m a:Option D):aa 11 (h::x::e::s::n::k::f::b::c::m::a::some d::L) S=some (d,S):=rfl
@[simp high] theorem Kr (d:D) (x e s n k f b c m r a h:Option D):aa 12 (x::e::s::n::k::f::b::c::m::r::a::h::some d::L) S=some (d,S):=rfl
@[simp high] theorem Kq (d:D) (e s n k f b c m r t a h x:Option D):aa 13 (e::s::n::k::f::b::c::m::r::t::a::h::x::some d::L) S=some (d,S):=rfl
@[simp high] theorem Ko (d:D) (s n k f b c m r t p a h x e:Option D):aa 14 (s::n::k::f::b::c::m::r::t::p::a::h::x::e::some d::L) S=some (d,S):=rfl
@[simp high] theorem Kn (d:D) (n k f b c m r t p q a h x e s:Option D):aa 15 (n::k::f::b::c::m::r::t::p::q::a::h::x::e::s::some d::L) S=some (d,S):=rfl
@[simp high] theorem Km (d:D) (k f b c m r t p q v a h x e s n:Option D):aa 16 (k::f::b::c::m::r::t::p::q::v::a::h::x::e::s::n::some d::L) S=some (d,S):=rfl
@[simp high] theorem Kl (d:D) (f b c m r t p q v w a h x e s n k:Option D):aa 17 (f::b::c::m::r::t::p::q::v::w::a::h::x::e::s::n::k::some d::L) S=some (d,S):=rfl
@[simp ↓ high] theorem Ll  (x y:s):(if few ([]:List p)=true then x else y)=x:=rfl
@[simp ↓ high] theorem Lk (a:p) (x y:s):(if few ([a]:List p)=true then x else y)=x:=rfl
@[simp ↓ high] theorem Lj (a h:p) (x y:s):(if few ([a,h]:List p)=true then x else y)=x:=rfl
@[simp ↓ high] theorem Li (a h e:p) (x y:s):(if few ([a,h,e]:List p)=true then x else y)=x:=rfl
@[simp ↓ high] theorem Lh (a h e s:p) (x y:k):(if few ([a,h,e,s]:List p)=true then x else y)=x:=rfl
@[simp ↓ high] theorem Lg (a h e s n:p) (x y:k):(if few ([a,h,e,s,n]:List p)=true then x else y)=x:=rfl
@[simp ↓ high] theorem Lf (a h e s n k:p) (x y:b):(if few ([a,h,e,s,n,k]:List p)=true then x else y)=x:=rfl
@[simp ↓ high] theorem Le (a h e s n k f:p) (x y:b):(if few ([a,h,e,s,n,k,f]:List p)=true then x else y)=x:=rfl
@[simp ↓ high] theorem Ld (a h e s n k f b:p) (x y:c):(if few ([a,h,e,s,n,k,f,b]:List p)=true then x else y)=x:=rfl
@[simp ↓ high] theorem Lb (a h e s n k f b c:p) (x y:q):(if few ([a,h,e,s,n,k,f,b,c]:List p)=true then x else y)=x:=rfl
@[simp ↓ high] theorem Ki (a h e s n k f b c m:p) (x y:q):(if few ([a,h,e,s,n,k,f,b,c,m]:List p)=true then x else y)=x:=rfl
@[simp ↓ high] theorem Kh (h e s n k f b c m r a:p) (x y:q):(if few ([h,e,s,n,k,f,b,c,m,r,a]:List p)=true then x else y)=x:=rfl
@[simp high] theorem LD (v:P) (S:aF):toP 9 (.p v) S=some (v,S):=rfl
@[simp ↓ high] theorem Kw (x:Option (p×aF)) (f:p->aF->Option s):aH x f=match x with | some (a,S)=>f a S | none=>none:=rfl
@[simp ↓ high] theorem K7 (x y:s):(if true=true then x else y)=x:=rfl
@[simp ↓ high] theorem K8 (x y:s):(if false=true then x else y)=y:=rfl
end
end Ev
namespace My
variable {n:Nat}
theorem Ln (h:1≤n):∃m,n=m+1:=⟨n-1,by lia⟩
theorem fM {n:Nat} (h:2≤n):∃m,n=m+2:=⟨n-2,by lia⟩
open PySem L2 Ev
noncomputable abbrev qp (x:P):Option D:=some (.p x)
noncomputable abbrev qi (x:Int):Option D:=some (.p (.int x))
noncomputable abbrev qs (x:Str):Option D:=some (.p (.str x))
noncomputable abbrev ql (x:List P):Option D:=some (.p (.lst x))
noncomputable abbrev vv (k:Nat):EV:=vE (aa k)
noncomputable abbrev vi (i:Int):EV:=vC (.int i)
noncomputable abbrev vt (x:Str):EV:=vC (.str x)
noncomputable abbrev v1 (a:EV):fN:=aO a aW
noncomputable abbrev v2 (a b:EV):fN:=aO a (aO b aW)
noncomputable abbrev v3 (a b c:EV):fN:=aO a (aO b (aO c aW))
noncomputable abbrev v4 (a b c d:EV):fN:=aO a (aO b (aO c (aO d aW)))
noncomputable abbrev v5 (a b c d e:EV):fN:=aO a (aO b (aO c (aO d (aO e aW))))
noncomputable abbrev v6 (a b c d e f:EV):fN:=aO a (aO b (aO c (aO d (aO e (aO f aW)))))
noncomputable abbrev v7 (a b c d e f g:EV):fN:=aO a (aO b (aO c (aO d (aO e (aO f (aO g aW))))))
noncomputable abbrev v8 (a b c d e f g h:EV):fN:=aO a (aO b (aO c (aO d (aO e (aO f (aO g (aO h aW)))))))
noncomputable def ao (i:Nat):Stmt:=PySem.Challenge.pw_roadsall_k32_rounds_that_keep_wishes.main.body.getD i (.Pass ⟨0,0,0,0⟩)
noncomputable def Gv (x:Str):Option P:=if x=("HIGHEST_LETTER":Str) then some (.int 999) else if x=("NOBODY":Str) then some (.int (-1)) else none
noncomputable def mq:Df:=⟨"_law_cell_at","_law_cell_at","",(ao 35),["_law_script","_law_k"],["_law_script","_law_k"],[],[],["flaw_ends","Board.family_of","Board.hands_beside","takeable","targets_of","posted","sendings","step_ends","hand_ends","ends_on","Board.__init__","able_on"]⟩
noncomputable def tF:Df:=⟨"_law_mix","_law_mix","",(ao 36),["_law_cell","_law_k","_law_turn","_law_number"],["_law_cell","_law_k"],[],[],["flaw_ends","Board.family_of","Board.hands_beside","takeable","targets_of","posted","sendings","step_ends","hand_ends","ends_on","Board.__init__","able_on"]⟩
noncomputable def oJ:Df:=⟨"_law_roads","_law_roads","",(ao 41),["_law_script","_law_families","_law_room","_law_roads_here","_law_k","_law_one","_law_j","_law_other","_law_drawn","_law_kind"],["_law_script","_law_families","_law_room"],["_law_roads_here"],[],["flaw_ends","Board.family_of","Board.hands_beside","takeable","targets_of","posted","sendings","step_ends","hand_ends","ends_on","Board.__init__","able_on"]⟩
noncomputable def rg:Df:=⟨"_law_name","_law_name","",(ao 37),["_law_script","_law_k","_law_drawn"],["_law_script","_law_k"],[],[],["flaw_ends","Board.family_of","Board.hands_beside","takeable","targets_of","posted","sendings","step_ends","hand_ends","ends_on","Board.__init__","able_on"]⟩
noncomputable def oK:Df:=⟨"_law_cells","_law_cells","",(ao 38),["_law_script","_law_family_here","_law_most","_law_cells_here","_law_k","_law_drawn","_law_low","_law_high"],["_law_script","_law_family_here","_law_most"],["_law_cells_here"],[],["flaw_ends","Board.family_of","Board.hands_beside","takeable","targets_of","posted","sendings","step_ends","hand_ends","ends_on","Board.__init__","able_on"]⟩
noncomputable def tD:Df:=⟨"_law_sum","_law_sum","",(ao 39),["_law_drawn","_law_names","_law_name_here"],["_law_drawn","_law_names"],[],[],["flaw_ends","Board.family_of","Board.hands_beside","takeable","targets_of","posted","sendings","step_ends","hand_ends","ends_on","Board.__init__","able_on"]⟩
noncomputable def oI:Df:=⟨"_law_sends","_law_sends","",(ao 42),["_law_drawn","_law_family_here","_law_names","_law_whos","_law_roads_here","_law_most","_law_goals","_law_sends_here","_law_k","_law_some","_law_tree","_law_mark"],["_law_drawn","_law_family_here","_law_names","_law_whos","_law_roads_here","_law_most"],["_law_sends_here"],[],["flaw_ends","Board.family_of","Board.hands_beside","takeable","targets_of","posted","sendings","step_ends","hand_ends","ends_on","Board.__init__","able_on"]⟩
noncomputable def kF:Df:=⟨"_law_condition","_law_condition","",(ao 40),["_law_drawn","_law_names","_law_word","_law_plain"],["_law_drawn","_law_names"],[],[],["flaw_ends","Board.family_of","Board.hands_beside","takeable","targets_of","posted","sendings","step_ends","hand_ends","ends_on","Board.__init__","able_on"]⟩
noncomputable def re:Df:=⟨"_law_step","_law_step","",(ao 43),["_law_drawn","_law_family_here","_law_rooms","_law_cells_here","_law_whos","_law_roads_here","_law_names","_law_senders","_law_take","_law_free","_law_more","_law_into","_law_who","_law_changes","_law_k","_law_name_here","_law_sends_here","_law_when"],["_law_drawn","_law_family_here","_law_rooms","_law_cells_here","_law_whos","_law_roads_here"],["_law_changes"],[],["flaw_ends","Board.family_of","Board.hands_beside","takeable","targets_of","posted","sendings","step_ends","hand_ends","ends_on","Board.__init__","able_on"]⟩
noncomputable def nW:Df:=⟨"_law_family","_law_family","",(ao 44),["_law_script","_law_k","_law_name_here","_law_crew","_law_wide","_law_roads_here","_law_cells_here","_law_drawn","_law_rooms","_law_whos","_law_steps","_law_j","_law_first"],["_law_script","_law_k","_law_name_here","_law_crew","_law_wide","_law_roads_here"],["_law_steps"],[],["flaw_ends","Board.family_of","Board.hands_beside","takeable","targets_of","posted","sendings","step_ends","hand_ends","ends_on","Board.__init__","able_on"]⟩
noncomputable def rf:Df:=⟨"_law_plan","_law_plan","",(ao 45),["_law_script","_law_most","_law_total","_law_wide","_law_many","_law_names","_law_roads_here","_law_families","_law_k","_law_name_here","_law_crew","_law_wishes","_law_drawn","_law_family_here"],["_law_script","_law_most"],["_law_families","_law_wishes"],[],["flaw_ends","Board.family_of","Board.hands_beside","takeable","targets_of","posted","sendings","step_ends","hand_ends","ends_on","Board.__init__","able_on"]⟩
noncomputable def mr:Df:=⟨"families_of","families_of","",(ao 8),["plan","homes","place","family"],["plan"],["homes"],[],["flaw_ends","Board.family_of","Board.hands_beside","takeable","targets_of","posted","sendings","step_ends","hand_ends","ends_on","Board.__init__","able_on"]⟩
noncomputable def rc:Df:=⟨"pairs_of","pairs_of","",(ao 9),["plan","names","pairs","road","one","name","others"],["plan"],["pairs"],[],["flaw_ends","Board.family_of","Board.hands_beside","takeable","targets_of","posted","sendings","step_ends","hand_ends","ends_on","Board.__init__","able_on"]⟩
noncomputable def xz:Df:=⟨"begin","begin","",(ao 10),["plan","hands","place","cells","whos"],["plan"],["hands"],[],["flaw_ends","Board.family_of","Board.hands_beside","takeable","targets_of","posted","sendings","step_ends","hand_ends","ends_on","Board.__init__","able_on"]⟩
noncomputable def rj:Df:=⟨"has_flaw","has_flaw","",(ao 24),["road","word","letters"],["road","word","letters"],[],[],["flaw_ends","Board.family_of","Board.hands_beside","takeable","targets_of","posted","sendings","step_ends","hand_ends","ends_on","Board.__init__","able_on"]⟩
noncomputable def lD:Df:=⟨"unlike_spots","unlike_spots","",(ao 16),["kind","letters","spots"],["kind","letters"],[],[],["flaw_ends","Board.family_of","Board.hands_beside","takeable","targets_of","posted","sendings","step_ends","hand_ends","ends_on","Board.__init__","able_on"]⟩
noncomputable def q_:Df:=⟨"replaced","replaced","",(ao 27),["row","place","thing"],["row","place","thing"],[],[],["flaw_ends","Board.family_of","Board.hands_beside","takeable","targets_of","posted","sendings","step_ends","hand_ends","ends_on","Board.__init__","able_on"]⟩
noncomputable def tB:Df:=⟨"without","without","",(ao 26),["row","place"],["row","place"],[],[],["flaw_ends","Board.family_of","Board.hands_beside","takeable","targets_of","posted","sendings","step_ends","hand_ends","ends_on","Board.__init__","able_on"]⟩
noncomputable def u4:Df:=⟨"flawed","flawed","",(ao 25),["word","letters","spot"],["word","letters","spot"],[],[],["flaw_ends","Board.family_of","Board.hands_beside","takeable","targets_of","posted","sendings","step_ends","hand_ends","ends_on","Board.__init__","able_on"]⟩
noncomputable def oN:Df:=⟨"flaw_ends","flaw_ends","",(ao 23),["board","standing","word","ends","place","pair","road","one","other","letters","spot","roads"],["board","standing","word"],["board","ends"],[],["flaw_ends","Board.family_of","Board.hands_beside","takeable","targets_of","posted","sendings","step_ends","hand_ends","ends_on","Board.__init__","able_on"]⟩
noncomputable def jF:Df:=⟨"Board.family_of","family_of","Board",(L2.cq (ao 7) 1),["self","hand"],["self","hand"],["self"],[],["flaw_ends","Board.family_of","Board.hands_beside","takeable","targets_of","posted","sendings","step_ends","hand_ends","ends_on","Board.__init__","able_on"]⟩
noncomputable def oG:Df:=⟨"values_of","values_of","",(ao 14),["family","cells"],["family","cells"],[],[],["flaw_ends","Board.family_of","Board.hands_beside","takeable","targets_of","posted","sendings","step_ends","hand_ends","ends_on","Board.__init__","able_on"]⟩
noncomputable def rk:Df:=⟨"compared","compared","",(ao 3),["word","one","other"],["word","one","other"],[],[],["flaw_ends","Board.family_of","Board.hands_beside","takeable","targets_of","posted","sendings","step_ends","hand_ends","ends_on","Board.__init__","able_on"]⟩
noncomputable def qY:Df:=⟨"value_of","value_of","",(ao 1),["tree","values","kind","one","other"],["tree","values"],[],[],["flaw_ends","Board.family_of","Board.hands_beside","takeable","targets_of","posted","sendings","step_ends","hand_ends","ends_on","Board.__init__","able_on"]⟩
noncomputable def xy:Df:=⟨"holds","holds","",(ao 2),["condition","values","kind"],["condition","values"],[],[],["flaw_ends","Board.family_of","Board.hands_beside","takeable","targets_of","posted","sendings","step_ends","hand_ends","ends_on","Board.__init__","able_on"]⟩
noncomputable def iz:Df:=⟨"Board.hands_beside","hands_beside","Board",(L2.cq (ao 7) 2),["self","hand","name"],["self","hand","name"],["self"],[],["flaw_ends","Board.family_of","Board.hands_beside","takeable","targets_of","posted","sendings","step_ends","hand_ends","ends_on","Board.__init__","able_on"]⟩
noncomputable def qZ:Df:=⟨"takeable","takeable","",(ao 15),["board","roads","hand","take","found","sender","place","kind","letters","spots"],["board","roads","hand","take"],["board","found"],[],["flaw_ends","Board.family_of","Board.hands_beside","takeable","targets_of","posted","sendings","step_ends","hand_ends","ends_on","Board.__init__","able_on"]⟩
noncomputable def lE:Df:=⟨"cells_behind","cells_behind","",(ao 18),["family","cells","step","values","given","name","amount","numbers","place","cell","number"],["family","cells","step","values"],["given","numbers"],[],["flaw_ends","Board.family_of","Board.hands_beside","takeable","targets_of","posted","sendings","step_ends","hand_ends","ends_on","Board.__init__","able_on"]⟩
noncomputable def mn:Df:=⟨"whos_behind","whos_behind","",(ao 19),["family","whos","take","letter"],["family","whos","take","letter"],[],[],["flaw_ends","Board.family_of","Board.hands_beside","takeable","targets_of","posted","sendings","step_ends","hand_ends","ends_on","Board.__init__","able_on"]⟩
noncomputable def nV:Df:=⟨"targets_of","targets_of","",(ao 21),["board","hand","way","name","whos","others"],["board","hand","way","name","whos"],["board"],[],["flaw_ends","Board.family_of","Board.hands_beside","takeable","targets_of","posted","sendings","step_ends","hand_ends","ends_on","Board.__init__","able_on"]⟩
noncomputable def u3:Df:=⟨"posted","posted","",(ao 22),["board","roads","hand","targets","letter","target","place","road","letters"],["board","roads","hand","targets","letter"],["board"],[],["flaw_ends","Board.family_of","Board.hands_beside","takeable","targets_of","posted","sendings","step_ends","hand_ends","ends_on","Board.__init__","able_on"]⟩
noncomputable def q0:Df:=⟨"sendings","sendings","",(ao 20),["board","hand","sends","values","roads","whos","ways","mark","amount","way","name","letter","further","chosen","sent","added","targets","roads_behind"],["board","hand","sends","values","roads","whos"],["board","further"],[],["flaw_ends","Board.family_of","Board.hands_beside","takeable","targets_of","posted","sendings","step_ends","hand_ends","ends_on","Board.__init__","able_on"]⟩
noncomputable def oH:Df:=⟨"step_ends","step_ends","",(ao 17),["board","standing","hand","step","letter","family","room","cells","whos","roads","values","place","hands","ends","chosen","roads_behind"],["board","standing","hand","step","letter"],["board","ends","values"],["values"],["flaw_ends","Board.family_of","Board.hands_beside","takeable","targets_of","posted","sendings","step_ends","hand_ends","ends_on","Board.__init__","able_on"]⟩
noncomputable def oM:Df:=⟨"hand_ends","hand_ends","",(ao 13),["board","standing","hand","family","room","cells","whos","values","ends","step","letter"],["board","standing","hand"],["board","ends"],[],["flaw_ends","Board.family_of","Board.hands_beside","takeable","targets_of","posted","sendings","step_ends","hand_ends","ends_on","Board.__init__","able_on"]⟩
noncomputable def tH:Df:=⟨"ends_on","ends_on","",(ao 12),["board","standing","ends","hand"],["board","standing"],["board","ends"],[],["flaw_ends","Board.family_of","Board.hands_beside","takeable","targets_of","posted","sendings","step_ends","hand_ends","ends_on","Board.__init__","able_on"]⟩
noncomputable def nX:Df:=⟨"Board.__init__","__init__","Board",(L2.cq (ao 7) 0),["self","plan","place","pair","hand"],["self","plan"],["self"],["places","self"],["flaw_ends","Board.family_of","Board.hands_beside","takeable","targets_of","posted","sendings","step_ends","hand_ends","ends_on","Board.__init__","able_on"]⟩
noncomputable def oO:Df:=⟨"ends_from","ends_from","",(ao 11),["plan","standing"],["plan","standing"],[],[],["flaw_ends","Board.family_of","Board.hands_beside","takeable","targets_of","posted","sendings","step_ends","hand_ends","ends_on","Board.__init__","able_on"]⟩
noncomputable def rh:Df:=⟨"_law_gone","_law_gone","",(ao 46),["_law_script","_law_plan_here","_law_first","_law_many","_law_standings","_law_row","_law_k","_law_some","_law_deed","_law_end"],["_law_script","_law_plan_here","_law_first","_law_many"],["_law_row","_law_standings"],[],["flaw_ends","Board.family_of","Board.hands_beside","takeable","targets_of","posted","sendings","step_ends","hand_ends","ends_on","Board.__init__","able_on"]⟩
noncomputable def oF:Df:=⟨"wishes_of","wishes_of","",(ao 29),["plan","homes","found","place","wish"],["plan"],["found"],[],["flaw_ends","Board.family_of","Board.hands_beside","takeable","targets_of","posted","sendings","step_ends","hand_ends","ends_on","Board.__init__","able_on"]⟩
noncomputable def tJ:Df:=⟨"done_by","done_by","",(ao 30),["plan","wish","deed","place","hand"],["plan","wish","deed"],[],[],["flaw_ends","Board.family_of","Board.hands_beside","takeable","targets_of","posted","sendings","step_ends","hand_ends","ends_on","Board.__init__","able_on"]⟩
noncomputable def tK:Df:=⟨"able_on","able_on","",(ao 32),["board","plan","standing","wish"],["board","plan","standing","wish"],["board"],[],["flaw_ends","Board.family_of","Board.hands_beside","takeable","targets_of","posted","sendings","step_ends","hand_ends","ends_on","Board.__init__","able_on"]⟩
noncomputable def zO:Df:=⟨"able","able","",(ao 31),["plan","standing","wish"],["plan","standing","wish"],[],[],["flaw_ends","Board.family_of","Board.hands_beside","takeable","targets_of","posted","sendings","step_ends","hand_ends","ends_on","Board.__init__","able_on"]⟩
noncomputable def tG:Df:=⟨"_law_due","_law_due","",(ao 47),["_law_plan_here","_law_wish","_law_standings","_law_row","_law_deed","_law_states"],["_law_plan_here","_law_wish","_law_standings","_law_row"],[],[],["flaw_ends","Board.family_of","Board.hands_beside","takeable","targets_of","posted","sendings","step_ends","hand_ends","ends_on","Board.__init__","able_on"]⟩
noncomputable def xx:Df:=⟨"keeps","keeps","",(ao 33),["plan","wish","standings","row","board","ables"],["plan","wish","standings","row"],[],[],["flaw_ends","Board.family_of","Board.hands_beside","takeable","targets_of","posted","sendings","step_ends","hand_ends","ends_on","Board.__init__","able_on"]⟩
noncomputable def ri:Df:=⟨"law","law","",(ao 48),["_law_script","_law_plan_here","_law_standings","_law_row","_law_at","_law_end","_law_handed","_law_wish","_law_due_here","_law_found"],["_law_script"],[],[],["flaw_ends","Board.family_of","Board.hands_beside","takeable","targets_of","posted","sendings","step_ends","hand_ends","ends_on","Board.__init__","able_on"]⟩
noncomputable def Att:At:=[("Board",["families","homes","members","pairs","places"])]
noncomputable def Tb:List Df:=[mq,tF,oJ,rg,oK,tD,oI,kF,re,nW,rf,mr,rc,xz,rj,lD,q_,tB,u4,oN,jF,oG,rk,qY,xy,iz,qZ,lE,mn,nV,u3,q0,oH,oM,tH,nX,oO,rh,oF,tJ,tK,zO,tG,xx,ri]
noncomputable def Ph (n:Nat):Str->GF:=Hj Gv Att Tb n
noncomputable def fW (x h:Str->GF):ES:=(ae (eA (bV (ac Ah (vv 1) (dR (aa 0)))) (aL (eV (ac ar (vv 0) (vv 1)))) eJ)
  (aL (eV (vi 0))))
theorem iL (n:Nat):Ph (n+2) "_law_cell_at"=cI 2 2 (fW (Ph (n+1)) (Ph n)):=by kernel_rfl
noncomputable def gJ (x h:Str->GF):ES:=(au 0 (eV (ac aP (vv 0) (vi 2147483648))))
noncomputable def jk (x h:Str->GF):ES:=(ae (eA (bV (ac G9 (vv 0) (ac By (vi 10) (vi 12)))) (ae (au 0 (eV (ac tL (ac aP (vv 0) (ac By (vi 10) (vi 12))) (vi 1))))
  (ae (cN (g0 (ac bb (vv 1) (vi 61))) (ak 2) (gJ x h))
  (aL (eV (ac bb (vv 0) (vi 2147483648)))))) eJ)
  (ae (au 3 (eV (ac bb (ac dq (ac aC (ac aC (ac bb (vv 0) (vi 1000003)) (ac dq (ac dq (vv 1) (vv 1)) (vi 7919))) (vv 1)) (vi 48271)) (vi 2147483629))))
  (ae (au 3 (eV (ac bb (ac dq (vv 3) (vv 3)) (vi 2147483587))))
  (aL (eV (ac aP (ac bb (ac dq (vv 3) (ac aC (vv 3) (vi 2))) (vi 2147483579)) (vi 7)))))))
theorem lT (n:Nat):Ph (n+2) "_law_mix"=cI 2 4 (jk (Ph (n+1)) (Ph n)):=by kernel_rfl
noncomputable def cT (h x:Str->GF):ES:=(ae (au 8 (eV (ah (pureOf (h "_law_mix")) (v2 (ah (pureOf (h "_law_cell_at")) (v2 (vv 0) (vi 4))) (ac aC (ac aC (vi 30) (ac dq (vi 4) (vv 4))) (vv 6))))))
  (eA (gi (bV (ac Cf (ac bb (vv 8) (vi 4)) (vi 0))) (bV (ac Ah (dR (aa 3)) (vi 8)))) (ae (au 9 (eV (ac ar (a_ (v2 (vt "row") (vt "heap"))) (ac bb (ac aP (vv 8) (vi 4)) (vi 2)))))
  (ci (bS (aa 3) (eV (aD (v6 (vv 5) (vv 7) (vv 9) (ac aC (vi 1) (ac bb (ac aP (vv 8) (vi 8)) (vv 2))) (aE eC (eV (ac bb (ac aP (vv 8) (vi 24)) (vi 3))) (eV (vi 1))) (aE eC (eV (ac bb (ac aP (vv 8) (vi 72)) (vi 3))) (eV (vi 1))))))))) eJ))
noncomputable def fq (x h:Str->GF):ES:=(cN (v0 (vv 1)) (bn [ak 6,ak 7]) (cT x h))
noncomputable def jQ (x h:Str->GF):ES:=(ae (au 3 (cS aW))
  (ae (cN (v0 (vv 1)) (bn [ak 4,ak 5]) (fq x h))
  (aL (aa 3))))
theorem oA (n:Nat):Ph (n+2) "_law_roads"=cI 3 10 (jQ (Ph (n+1)) (Ph n)):=by kernel_rfl
noncomputable def kM (h x:Str->GF):ES:=(ae (au 2 (eV (ah (pureOf (h "_law_mix")) (v2 (ah (pureOf (h "_law_cell_at")) (v2 (vv 0) (vi 1))) (vv 1)))))
  (aL (eV (ac aC (ac dq (ac ar (vt "abcdefghijklmnop") (vv 1)) (ac aC (vi 1) (ac bb (vv 2) (vi 4)))) (ac ar (vt "xyz") (ac bb (ac aP (vv 2) (vi 4)) (vi 3)))))))
theorem qP (n:Nat):Ph (n+2) "_law_name"=cI 2 3 (kM (Ph (n+1)) (Ph n)):=by kernel_rfl
noncomputable def fu (h x:Str->GF):ES:=(ae (au 5 (eV (ah (pureOf (h "_law_mix")) (v2 (ah (pureOf (h "_law_cell_at")) (v2 (vv 0) (ac aC (vi 2) (vv 1)))) (ac aC (vi 2) (vv 4))))))
  (ae (au 6 (eV (ac ar (a_ (v4 (vi 0) (vi 0) (CC u5 (vi 1)) (vi 5))) (ac bb (vv 5) (vi 4)))))
  (ae (au 7 (eV (ac aC (vv 6) (ac ar (a_ (v4 (vi 1) (vi 2) (vi 0) (vi 1))) (ac bb (ac aP (vv 5) (vi 4)) (vi 4))))))
  (ci (bS (aa 3) (eV (aD (v4 (ah (pureOf (h "_law_name")) (v2 (vv 0) (ac aC (vi 2) (vv 4)))) (vv 6) (vv 7) (ac aC (vv 6) (ac bb (ac aP (vv 5) (vi 16)) (ac aC (ac tL (vv 7) (vv 6)) (vi 1))))))))))))
noncomputable def jR (h x:Str->GF):ES:=(ae (au 3 (cS aW))
  (ae (cN (g0 (ac bb (ah (pureOf (h "_law_mix")) (v2 (ah (pureOf (h "_law_cell_at")) (v2 (vv 0) (ac aC (vi 2) (vv 1)))) (vi 1))) (ac aC (vv 2) (vi 1)))) (ak 4) (fu h x))
  (aL (aa 3))))
theorem oB (n:Nat):Ph (n+2) "_law_cells"=cI 3 8 (jR (Ph (n+1)) (Ph n)):=by kernel_rfl
noncomputable def dE (x h:Str->GF):ES:=(ae (eA (wv (bV (aE eC (aa 1) (eV (a_ aW)))) (bV (aE eC (eV (ac bb (vv 0) (vi 5))) (eV (vi 0))))) (aL (eV (aD (v2 (vt "number") (ac bb (ac aP (vv 0) (vi 5)) (vi 3)))))) eJ)
  (ae (au 2 (eV (aD (v2 (vt "name") (ac ar (vv 1) (ac bb (ac aP (vv 0) (vi 5)) (dR (aa 1))))))))
  (ae (eA (bV (aE eC (eV (ac bb (vv 0) (vi 5))) (eV (vi 1)))) (aL (aa 2)) eJ)
  (ae (eA (bV (aE eC (eV (ac bb (vv 0) (vi 5))) (eV (vi 2)))) (aL (eV (aD (v3 (vt "plus") (vv 2) (aD (v2 (vt "number") (ac bb (ac aP (vv 0) (vi 20)) (vi 3)))))))) eJ)
  (ae (eA (bV (aE eC (eV (ac bb (vv 0) (vi 5))) (eV (vi 3)))) (aL (eV (aD (v3 (vt "minus") (aD (v3 (vt "times") (vv 2) (aD (v2 (vt "number") (ac bb (ac aP (vv 0) (vi 20)) (vi 3)))))) (aD (v2 (vt "number") (ac bb (ac aP (vv 0) (vi 60)) (vi 2)))))))) eJ)
  (aL (eV (aD (v3 (vt "minus") (aD (v2 (vt "number") (vi 1))) (vv 2))))))))))
theorem eG (n:Nat):Ph (n+2) "_law_sum"=cI 2 3 (dE (Ph (n+1)) (Ph n)):=by kernel_rfl
noncomputable def bG (h x:Str->GF):ES:=(ae (au 9 (eV (ac aP (vv 0) (ac ar (a_ (v3 (vi 4) (vi 1000) (vi 100000))) (vv 8)))))
  (ae (au 10 (eV (ah (pureOf (h "_law_sum")) (v2 (ac bb (ac aP (vv 9) (vi 12)) (vi 300)) (vv 2)))))
  (ae (au 11 (eV (ac ar (a_ (v2 (vt "ma") (vt "mb"))) (ac bb (vv 9) (vi 2)))))
  (eA (gi (bV (aE ou (aa 3) (eV (a_ aW)))) (bV (aE eC (eV (ac bb (ac aP (vv 9) (vi 2)) (vi 3))) (eV (vi 1))))) (ci (bS (aa 7) (eV (aD (v4 (vv 11) (vv 10) (vt "who") (ac ar (vv 3) (ac bb (ac aP (vv 9) (vi 50)) (dR (aa 3))))))))) (eA (bV (aE ou (aa 6) (eV (a_ aW)))) (ci (bS (aa 7) (eV (aD (v4 (vv 11) (vv 10) (ac ar (a_ (v2 (vt "all") (vt "any"))) (ac dq (ac bb (ac aP (vv 9) (vi 6)) (vi 2)) (ah bE (v1 (ac Ah (vv 8) (vi 1)))))) (ac ar (vv 6) (ac bb (ac aP (vv 9) (vi 3)) (dR (aa 6))))))))) eJ)))))
noncomputable def jP (x h:Str->GF):ES:=(ae (au 6 (eV (aU (iR (vv 4)) [] 1 (ak 12) (bV (aE eC (eV (ac ar (vv 12) (vi 0))) (aa 1))) (ac ar (vv 12) (vi 1)))))
  (ae (au 7 (cS aW))
  (ae (cN (g0 (ac bb (vv 0) (ac aC (vv 5) (vi 1)))) (ak 8) (bG x h))
  (aL (aa 7)))))
theorem oz (n:Nat):Ph (n+2) "_law_sends"=cI 6 12 (jP (Ph (n+1)) (Ph n)):=by kernel_rfl
noncomputable def bU (h x:Str->GF):ES:=(ae (eA (wv (bV (aE eC (aa 1) (eV (a_ aW)))) (bV (ac Ah (ac bb (vv 0) (vi 5)) (vi 2)))) (aL (eV (aD (v1 (vt "true"))))) eJ)
  (ae (au 2 (eV (ac ar (a_ (v6 (vt "=") (vt "!=") (vt "<") (vt "<=") (vt ">") (vt ">="))) (ac bb (ac aP (vv 0) (vi 5)) (vi 6)))))
  (ae (au 3 (eV (aD (v4 (vt "is") (vv 2) (aD (v2 (vt "name") (ac ar (vv 1) (ac bb (ac aP (vv 0) (vi 30)) (dR (aa 1)))))) (ah (pureOf (h "_law_sum")) (v2 (ac aP (vv 0) (vi 90)) (vv 1)))))))
  (ae (eA (bV (aE eC (eV (ac bb (vv 0) (vi 5))) (eV (vi 2)))) (aL (eV (aD (v2 (vt "not") (vv 3))))) eJ)
  (ae (eA (bV (aE eC (eV (ac bb (vv 0) (vi 5))) (eV (vi 3)))) (aL (eV (aD (v3 (vt "or") (vv 3) (aD (v3 (vt "and") (aD (v1 (vt "true"))) (aD (v4 (vt "is") (vt "=") (aD (v2 (vt "number") (vi 1))) (aD (v2 (vt "name") (ac ar (vv 1) (vi 0)))))))))))) eJ)
  (aL (aa 3)))))))
theorem cB (n:Nat):Ph (n+2) "_law_condition"=cI 2 4 (bU (Ph (n+1)) (Ph n)):=by kernel_rfl
noncomputable def aM (x h:Str->GF):ES:=(eA (gi (bV (aE ou (aa 7) (eV (a_ aW)))) (bV (aE eC (eV (ac bb (ac ar (vv 0) (vi 0)) (vi 3))) (eV (vi 1))))) (ae (au 11 (eV (vt "")))
  (ae (eA (gi (bV (aE ou (aa 6) (eV (a_ aW)))) (bV (aE eC (eV (ac bb (ac aP (ac ar (vv 0) (vi 0)) (vi 3)) (vi 2))) (eV (vi 1))))) (ae (au 11 (eV (ac ar (vv 6) (CC u5 (vi 1)))))
  (au 9 (eV (im (vv 6) gN (cy (CC u5 (vi 1))))))) eJ)
  (ae (au 12 (eV (vt "")))
  (ae (eA (gi (bV (aE ou (aa 4) (eV (a_ aW)))) (bV (aE eC (eV (ac bb (ac aP (ac ar (vv 0) (vi 0)) (vi 6)) (vi 2))) (eV (vi 1))))) (au 12 (eV (ac ar (vv 4) (ac bb (ac aP (ac ar (vv 0) (vi 0)) (vi 200)) (dR (aa 4)))))) eJ)
  (ae (au 8 (eV (aD (v4 (ac ar (a_ (v2 (vt "ma") (vt "mb"))) (ac bb (ac aP (ac ar (vv 0) (vi 0)) (vi 12)) (vi 2))) (ac ar (vv 7) (ac bb (ac aP (ac ar (vv 0) (vi 0)) (vi 24)) (dR (aa 7)))) (vv 11) (vv 12)))))
  (au 10 (eV (a_ (v1 (vt "it")))))))))) eJ)
noncomputable def d_ (h x:Str->GF):ES:=(eA (bV (aE eC (eV (ac bb (ac aP (ac ar (vv 0) (vi 1)) (ac ar (a_ (v3 (vi 1) (vi 1000) (vi 1000000))) (vv 14))) (vi 2))) (eV (vi 1)))) (ci (bS (aa 13) (eV (aD (v2 (vv 15) (ah (pureOf (h "_law_sum")) (v2 (ac bb (ac aP (ac ar (vv 0) (vi 1)) (ac ar (a_ (v3 (vi 2) (vi 2000) (vi 2000000))) (vv 14))) (vi 300)) (ac aC (vv 6) (vv 10))))))))) eJ)
noncomputable def kL (h x:Str->GF):ES:=(ae (au 6 (eV (aU (iR (vv 3)) [] 1 (ak 18) dZ (ac ar (vv 18) (vi 0)))))
  (ae (au 7 (eV (aU (iR (vv 5)) [] 1 (ak 18) (bV (aE eC (eV (ac ar (vv 18) (vi 1))) (aa 1))) (ac ar (vv 18) (vi 0)))))
  (ae (au 8 (eV (vC (.non))))
  (ae (au 9 (eV (ah lI (v1 (vv 6)))))
  (ae (au 10 (eV (a_ aW)))
  (ae (aM h x)
  (ae (au 13 (cS aW))
  (ae (cN (v0 (vv 9)) (bn [ak 14,ak 15]) (d_ h x))
  (ae (au 16 (eV (ah (pureOf (h "_law_sends")) (v6 (ac ar (vv 0) (vi 2)) (vv 1) (ac aC (vv 6) (vv 10)) (vv 4) (vv 5) (ac aC (vi 2) (ah bE (v1 (ac Cf (dR (aa 2)) (vi 3)))))))))
  (ae (au 17 (eV (ah (pureOf (h "_law_condition")) (v2 (ac bb (ac ar (vv 0) (vi 3)) (vi 27000)) (vv 6)))))
  (aL (eV (aD (v6 (ac ar (vv 2) (ac bb (ac aP (ac ar (vv 0) (vi 3)) (vi 27000)) (dR (aa 2)))) (vv 17) (vv 8) (vv 13) (vv 16) (ac ar (vv 2) (ac bb (ac aP (ac ar (vv 0) (vi 3)) (vi 216000)) (dR (aa 2))))))))))))))))))
theorem qN (n:Nat):Ph (n+2) "_law_step"=cI 6 18 (kL (Ph (n+1)) (Ph n)):=by kernel_rfl
noncomputable def eT (h x:Str->GF):ES:=(ae (au 12 (eV (ac dq (vi 4) (ac aC (ac dq (vi 8) (vv 1)) (vv 11)))))
  (ae (au 7 (eV (aU (g0 (vi 4)) [] 1 (ak 13) dZ (ah (pureOf (h "_law_mix")) (v2 (ah (pureOf (h "_law_cell_at")) (v2 (vv 0) (ac aC (vi 5) (ac bb (ac aC (vv 12) (vv 13)) (vi 24))))) (ac aC (ac aC (vi 11) (vv 12)) (vv 13)))))))
  (ci (bS (aa 10) (eV (ac aC (aD (v1 (ah (pureOf (h "_law_name")) (v2 (vv 0) (ac aC (vi 8) (vv 11)))))) (ah (pureOf (h "_law_step")) (v6 (vv 7) (vv 2) (vv 8) (vv 6) (vv 9) (vv 5)))))))))
noncomputable def jn (h x:Str->GF):ES:=(ae (au 6 (eV (ah (pureOf (h "_law_cells")) (v3 (vv 0) (vv 1) (ac aC (vi 2) (ah bE (v1 (vv 4))))))))
  (ae (au 7 (eV (ah (pureOf (h "_law_mix")) (v2 (ah (pureOf (h "_law_cell_at")) (v2 (vv 0) (ac aC (vi 2) (vv 1)))) (vi 9)))))
  (ae (au 8 (eV (aU (g0 (ac aC (vi 1) (ac bb (vv 7) (ac ar (a_ (v2 (vi 3) (vi 8))) (ah bE (v1 (vv 4))))))) [11] 0 (ak 11) dZ (ah (pureOf (h "_law_name")) (v2 (vv 0) (ac aC (vi 4) (vv 11)))))))
  (ae (au 7 (eV (ah (pureOf (h "_law_mix")) (v2 (ah (pureOf (h "_law_cell_at")) (v2 (vv 0) (ac aC (vi 2) (vv 1)))) (vi 8)))))
  (ae (au 9 (eV (aU (g0 (ac bb (vv 7) (ac aC (vi 2) (ah bE (v1 (vv 4)))))) [11] 0 (ak 11) dZ (ah (pureOf (h "_law_name")) (v2 (vv 0) (ac aC (vi 10) (vv 11)))))))
  (ae (au 10 (cS aW))
  (ae (cN (g0 (ac aC (vi 1) (ac bb (ah (pureOf (h "_law_mix")) (v2 (ah (pureOf (h "_law_cell_at")) (v2 (vv 0) (ac aC (vi 2) (vv 1)))) (vi 7))) (ac ar (a_ (v2 (vi 3) (vi 8))) (ah bE (v1 (vv 4))))))) (ak 11) (eT h x))
  (aL (eV (aD (v6 (vv 2) (vv 3) (vv 8) (vv 6) (vv 9) (vv 10))))))))))))
theorem nM (n:Nat):Ph (n+2) "_law_family"=cI 6 13 (jn (Ph (n+1)) (Ph n)):=by kernel_rfl
noncomputable def fV (h x:Str->GF):ES:=(ae (au 10 (eV (ac aC (vi 1) (ac bb (ac aP (vv 2) (ac ar (a_ (v4 (vi 4) (vi 12) (vi 16) (vi 16))) (vv 8))) (ac ar (a_ (v4 (ac aC (vv 1) (ah bE (v1 (vv 3)))) (vi 2) (vi 1) (vi 1))) (ac tL (vv 4) (vi 1)))))))
  (ci (bS (aa 7) (eV (ah (pureOf (h "_law_family")) (v6 (vv 0) (vv 8) (vv 9) (vv 10) (vv 3) (vv 6)))))))
noncomputable def fU (h x:Str->GF):ES:=(ae (au 12 (eV (ah (pureOf (h "_law_mix")) (v2 (ah (pureOf (h "_law_cell_at")) (v2 (vv 0) (vi 4))) (ac aC (vi 20) (vv 8))))))
  (ae (au 13 (tf (aa 7) (ac bb (vv 12) (vv 4))))
  (ci (bS (aa 11) (eV (aD (v3 (ac ar (a_ (v2 (vt "weak") (vt "strong"))) (ac bb (ac aP (vv 12) (vi 4)) (vi 2))) (ac ar (vv 13) (vi 0)) (ac ar (ac ar (ac ar (vv 13) (vi 5)) (ac bb (ac aP (vv 12) (vi 8)) (dR (eV (ac ar (vv 13) (vi 5)))))) (vi 0)))))))))
noncomputable def iC (h x:Str->GF):ES:=(ae (au 2 (eV (ah (pureOf (h "_law_cell_at")) (v2 (vv 0) (vi 0)))))
  (ae (au 3 (eV (aE eC (eV (ac bb (ac aP (vv 2) (vi 64)) (vi 8))) (eV (vi 1)))))
  (ae (au 4 (eV (ac aC (vi 1) (ac bb (vv 2) (ac ar (a_ (v2 (vi 2) (vi 4))) (ah bE (v1 (vv 3))))))))
  (ae (au 5 (eV (aU (g0 (vv 4)) [8] 0 (ak 8) dZ (ah (pureOf (h "_law_name")) (v2 (vv 0) (vv 8))))))
  (ae (au 6 (eV (ah (pureOf (h "_law_roads")) (v3 (vv 0) (vv 5) (ac aC (vi 2) (ah bE (v1 (vv 3))))))))
  (ae (au 7 (cS aW))
  (ae (cN (v0 (vv 5)) (bn [ak 8,ak 9]) (fV h x))
  (ae (au 11 (cS aW))
  (ae (cN (g0 (ac aC (ac bb (ac aP (vv 2) (vi 48)) (vi 3)) (ac dq (vi 4) (ah bE (v1 (vB (gi (bV (vv 3)) (bV (aE eC (eV (ac bb (vv 2) (vi 3))) (eV (vi 1))))))))))) (ak 8) (fU h x))
  (aL (eV (aD (v3 (vv 7) (vv 6) (vv 11))))))))))))))
theorem qO (n:Nat):Ph (n+2) "_law_plan"=cI 2 14 (iC (Ph (n+1)) (Ph n)):=by kernel_rfl
noncomputable def eE (x h:Str->GF):ES:=(ci (dn (aa 1) (ac dq (a_ (v1 (vv 2))) (ac ar (vv 3) (vi 1)))))
noncomputable def iO (x h:Str->GF):ES:=(ae (au 1 (cS aW))
  (ae (cN (v0 (ac ar (vv 0) (vi 0))) (bn [ak 2,ak 3]) (eE x h))
  (aL (aa 1))))
theorem mi (n:Nat):Ph (n+2) "families_of"=cI 1 4 (iO (Ph (n+1)) (Ph n)):=by kernel_rfl
noncomputable def d9 (x h:Str->GF):ES:=(eA (bV (aE eC (aa 5) (eV (ac ar (vv 3) (vi 0))))) (ae (au 6 (eV (aU (g0 (dR (aa 1))) [] 1 (ak 7) (gi (bV (aE ou (aa 7) (aa 4))) (bV (aE eC (eV (ac ar (vv 1) (vv 7))) (eV (ac ar (vv 3) (vi 1)))))) (vv 7))))
  (ci (dn (aa 2) (aU (iR (vv 6)) [] 1 (ak 7) dZ (aD (v3 (vv 3) (vv 4) (vv 7))))))) eJ)
noncomputable def iN (x h:Str->GF):ES:=(cN (v0 (vv 1)) (bn [ak 4,ak 5]) (d9 x h))
noncomputable def kK (h x:Str->GF):ES:=(ae (au 1 (eV (aU (iR (ah (pureOf (h "families_of")) (v1 (vv 0)))) [] 1 (ak 7) dZ (ac ar (ac ar (ac ar (vv 0) (vi 0)) (vv 7)) (vi 0)))))
  (ae (au 2 (cS aW))
  (ae (cN (iR (ac ar (vv 0) (vi 1))) (ak 3) (iN h x))
  (aL (aa 2)))))
theorem qM (n:Nat):Ph (n+2) "pairs_of"=cI 1 7 (kK (Ph (n+1)) (Ph n)):=by kernel_rfl
noncomputable def iG (x h:Str->GF):ES:=(ae (au 3 (eV (ac ar (ac ar (ac ar (vv 0) (vi 0)) (vv 2)) (vi 3))))
  (ae (au 4 (eV (ac ar (ac ar (ac ar (vv 0) (vi 0)) (vv 2)) (vi 4))))
  (ci (bS (aa 1) (eV (aD (v3 (vi 0) (ah d5 (v1 (aU (iR (vv 3)) [] 1 (ak 5) dZ (ac ar (vv 5) (vi 3))))) (ac dq (aD (v1 (vi (-1)))) (dR (aa 4))))))))))
noncomputable def pE (h x:Str->GF):ES:=(ae (au 1 (cS aW))
  (ae (cN (iR (ah (pureOf (h "families_of")) (v1 (vv 0)))) (ak 2) (iG h x))
  (aL (eV (aD (v2 (ah d5 (v1 (vv 1))) (ac dq (aD (v1 (aD aW))) (dR (eV (ah (pureOf (h "pairs_of")) (v1 (vv 0))))))))))))
theorem xp (n:Nat):Ph (n+2) "begin"=cI 1 5 (pE (Ph (n+1)) (Ph n)):=by kernel_rfl
noncomputable def iF (x h:Str->GF):ES:=(ae (eA (bV (aE eC (aa 1) (eV (vt "lose")))) (aL (eV (ac ar (vv 0) (vi 4)))) eJ)
  (aL (eV (vB (gi (bV (ac ar (vv 0) (vi 5))) (bV (ac Ah (dR (aa 2)) (ac ar (vv 0) (vi 3)))))))))
theorem kE (n:Nat):Ph (n+2) "has_flaw"=cI 3 3 (iF (Ph (n+1)) (Ph n)):=by kernel_rfl
noncomputable def ce (x h:Str->GF):ES:=(ae (au 2 (eV (Er (dR (aa 1)))))
  (ae (eA (bV (aE eC (aa 0) (eV (vt "row")))) (aL (aa 2)) eJ)
  (aL (eV (aU (iR (vv 2)) [] 1 (ak 3) (bV (aE eC (eV (oe (vv 1) (ac ar (vv 1) (vv 3)))) (aa 3))) (vv 3))))))
theorem cP (n:Nat):Ph (n+2) "unlike_spots"=cI 2 3 (ce (Ph (n+1)) (Ph n)):=by kernel_rfl
noncomputable def eS (x h:Str->GF):ES:=(aL (eV (ac aC (ac aC (im (vv 0) gN (cy (vv 1))) (aD (v1 (vv 2)))) (im (vv 0) (cy (ac aC (vv 1) (vi 1))) gN))))
theorem gb (n:Nat):Ph (n+2) "replaced"=cI 3 3 (eS (Ph (n+1)) (Ph n)):=by kernel_rfl
noncomputable def fJ (x h:Str->GF):ES:=(aL (eV (ac aC (im (vv 0) gN (cy (vv 1))) (im (vv 0) (cy (ac aC (vv 1) (vi 1))) gN))))
theorem gQ (n:Nat):Ph (n+2) "without"=cI 2 2 (fJ (Ph (n+1)) (Ph n)):=by kernel_rfl
noncomputable def j_ (h x:Str->GF):ES:=(ae (eA (bV (aE eC (aa 0) (eV (vt "lose")))) (aL (eV (ah (pureOf (h "without")) (v2 (vv 1) (vv 2))))) eJ)
  (aL (eV (ac aC (im (vv 1) gN (cy (ac aC (vv 2) (vi 1)))) (im (vv 1) (cy (vv 2)) gN)))))
theorem nN (n:Nat):Ph (n+2) "flawed"=cI 3 3 (j_ (Ph (n+1)) (Ph n)):=by kernel_rfl
noncomputable def fx (h x:Str->GF):ES:=(ae (au 11 (eV (ah (pureOf (h "replaced")) (v3 (ac ar (vv 1) (vi 1)) (vv 4) (ah (pureOf (h "flawed")) (v3 (vv 2) (vv 9) (vv 10)))))))
  (ci (bS (aa 3) (eV (aD (v2 (aD (v4 (vv 2) (vv 7) (vv 8) (vv 10))) (aD (v2 (ac ar (vv 1) (vi 0)) (vv 11)))))))))
noncomputable def dM (h x:Str->GF):ES:=(ae (ni (bn [ak 6,ak 7,ak 8]) (vv 5))
  (ae (au 9 (eV (ac ar (ac ar (vv 1) (vi 1)) (vv 4))))
  (eA (bT (eV (ah (pureOf (h "has_flaw")) (v3 (vv 6) (vv 2) (vv 9))))) (cN (iR (ah (pureOf (h "unlike_spots")) (v2 (ac ar (vv 6) (vi 2)) (vv 9)))) (ak 10) (fx h x)) eJ)))
noncomputable def g8 (x h:Str->GF):ES:=(ae (au 3 (cS aW))
  (ae (cN (v0 (vE (dD (aT Att) (aa 0) "pairs"))) (bn [ak 4,ak 5]) (dM x h))
  (aL (aa 3))))
theorem oC (n:Nat):Ph (n+2) "flaw_ends"=cI 3 12 (g8 (Ph (n+1)) (Ph n)):=by kernel_rfl
noncomputable def cM (x h:Str->GF):ES:=(aL (tf (dD (aT Att) (aa 0) "families") (vE (tf (dD (aT Att) (aa 0) "homes") (vv 1)))))
theorem b6 (n:Nat):Ph (n+2) "Board.family_of"=cI 2 2 (cM (Ph (n+1)) (Ph n)):=by kernel_rfl
noncomputable def dX (x h:Str->GF):ES:=(aL (qR (aU (iR (ac ar (vv 0) (vi 3))) [] 1 (ak 2) dZ (ac ar (vv 2) (vi 0))) (vv 1)))
theorem fD (n:Nat):Ph (n+2) "values_of"=cI 2 2 (dX (Ph (n+1)) (Ph n)):=by kernel_rfl
noncomputable def bM (x h:Str->GF):ES:=(ae (eA (bV (aE eC (aa 0) (eV (vt "=")))) (aL (eV (aE eC (aa 1) (aa 2)))) eJ)
  (ae (eA (bV (aE eC (aa 0) (eV (vt "!=")))) (aL (eV (aE ou (aa 1) (aa 2)))) eJ)
  (ae (eA (bV (aE eC (aa 0) (eV (vt "<")))) (aL (eV (ac Ah (vv 1) (vv 2)))) eJ)
  (ae (eA (bV (aE eC (aa 0) (eV (vt "<=")))) (aL (eV (ac G8 (vv 1) (vv 2)))) eJ)
  (ae (eA (bV (aE eC (aa 0) (eV (vt ">")))) (aL (eV (ac Cf (vv 1) (vv 2)))) eJ)
  (aL (eV (ac G9 (vv 1) (vv 2)))))))))
theorem gc (n:Nat):Ph (n+2) "compared"=cI 3 3 (bM (Ph (n+1)) (Ph n)):=by kernel_rfl
noncomputable def bK (h x:Str->GF):ES:=(ae (au 2 (eV (ac ar (vv 0) (vi 0))))
  (ae (eA (bV (aE eC (aa 2) (eV (vt "number")))) (aL (eV (ac ar (vv 0) (vi 1)))) eJ)
  (ae (eA (bV (aE eC (aa 2) (eV (vt "name")))) (aL (eV (ac ar (vv 1) (ac ar (vv 0) (vi 1))))) eJ)
  (ae (au 3 (eV (ah (pureOf (h "value_of")) (v2 (ac ar (vv 0) (vi 1)) (vv 1)))))
  (ae (au 4 (eV (ah (pureOf (h "value_of")) (v2 (ac ar (vv 0) (vi 2)) (vv 1)))))
  (ae (eA (bV (aE eC (aa 2) (eV (vt "plus")))) (aL (eV (ac aC (vv 3) (vv 4)))) eJ)
  (ae (eA (bV (aE eC (aa 2) (eV (vt "minus")))) (aL (eV (ac tL (vv 3) (vv 4)))) eJ)
  (aL (eV (ac dq (vv 3) (vv 4)))))))))))
theorem cA (n:Nat):Ph (n+2) "value_of"=cI 2 5 (bK (Ph (n+1)) (Ph n)):=by kernel_rfl
noncomputable def dg (h x:Str->GF):ES:=(ae (au 2 (eV (ac ar (vv 0) (vi 0))))
  (ae (eA (bV (aE eC (aa 2) (eV (vt "true")))) (aL (eV (vC (.bl true)))) eJ)
  (ae (eA (bV (aE eC (aa 2) (eV (vt "not")))) (aL (eV (vB (mu (bV (ah (pureOf (h "holds")) (v2 (ac ar (vv 0) (vi 1)) (vv 1)))))))) eJ)
  (ae (eA (bV (aE eC (aa 2) (eV (vt "and")))) (aL (eV (vB (gi (bV (ah (pureOf (h "holds")) (v2 (ac ar (vv 0) (vi 1)) (vv 1)))) (bV (ah (pureOf (h "holds")) (v2 (ac ar (vv 0) (vi 2)) (vv 1)))))))) eJ)
  (ae (eA (bV (aE eC (aa 2) (eV (vt "or")))) (aL (eV (vB (wv (bV (ah (pureOf (h "holds")) (v2 (ac ar (vv 0) (vi 1)) (vv 1)))) (bV (ah (pureOf (h "holds")) (v2 (ac ar (vv 0) (vi 2)) (vv 1)))))))) eJ)
  (aL (eV (ah (pureOf (h "compared")) (v3 (ac ar (vv 0) (vi 1)) (ah (pureOf (h "value_of")) (v2 (ac ar (vv 0) (vi 2)) (vv 1))) (ah (pureOf (h "value_of")) (v2 (ac ar (vv 0) (vi 3)) (vv 1))))))))))))
theorem eH (n:Nat):Ph (n+2) "holds"=cI 2 3 (dg (Ph (n+1)) (Ph n)):=by kernel_rfl
noncomputable def bw (x h:Str->GF):ES:=(aL (eV (aU (iR (vE (tf (dD (aT Att) (aa 0) "members") (vv 2)))) [] 1 (ak 3) (bV (aE ou (aa 3) (aa 1))) (vv 3))))
theorem b8 (n:Nat):Ph (n+2) "Board.hands_beside"=cI 3 3 (bw (Ph (n+1)) (Ph n)):=by kernel_rfl
noncomputable def c_ (h x:Str->GF):ES:=(ae (au 6 (uW (dD (aT Att) (aa 0) "places") (v2 (vv 5) (vv 2))))
  (ae (au 7 (tf (tf (tf (dD (aT Att) (aa 0) "pairs") (vv 6)) (vi 0)) (vi 2)))
  (ae (au 8 (eV (ac ar (vv 1) (vv 6))))
  (ae (au 9 (eV (BV (bV (aE eC (aa 7) (eV (vt "row")))) (im (Er (dR (aa 8))) gN (cy (vi 1))) (ah (pureOf (h "unlike_spots")) (v2 (vv 7) (vv 8))))))
  (ci (dn (aa 4) (aU (iR (vv 9)) [] 1 (ak 10) (bV (aE eC (eV (ac ar (ac ar (vv 8) (vv 10)) (vi 0))) (eV (ac ar (vv 3) (vi 0))))) (aD (v2 (vv 5) (vv 10))))))))))
noncomputable def cX (h x:Str->GF):ES:=(ae (eA (bV (aE rW (aa 3) (eV (vC (.non))))) (aL (eV (a_ (v1 (vC (.non)))))) eJ)
  (ae (au 4 (cS aW))
  (ae (cN (iR (vE (dm (mT Tb h) (aa 0) "hands_beside" (ab (aa 2) (ab (eV (ac ar (vv 3) (vi 1))) aY))))) (ak 5) (c_ h x))
  (aL (aa 4)))))
theorem eR (n:Nat):Ph (n+2) "takeable"=cI 4 10 (cX (Ph (n+1)) (Ph n)):=by kernel_rfl
noncomputable def dQ (h x:Str->GF):ES:=(eY (aa 4) (vv 5) (ah (pureOf (h "value_of")) (v2 (vv 6) (vv 3))))
noncomputable def aJ (x h:Str->GF):ES:=(ae (au 10 (eV (vr (vv 4) (ac ar (vv 9) (vi 0)) (ac ar (vv 1) (vv 8)))))
  (ae (eA (gi (bV (aE Af (eV (ac ar (vv 9) (vi 0))) (aa 4))) (mu (bV (lh G8 G8 (ac ar (vv 9) (vi 1)) (vv 10) (ac ar (vv 9) (vi 2)))))) (aL (eV (vC (.non)))) eJ)
  (ci (bS (aa 7) (aa 10)))))
noncomputable def bH (x h:Str->GF):ES:=(ae (au 4 lU)
  (ae (cN (iR (ac ar (vv 2) (vi 4))) (bn [ak 5,ak 6]) (dQ x h))
  (ae (eA (gi (bV (aE cW (eV (ac ar (vv 2) (vi 3))) (eV (vC (.non))))) (bV (aE ou (eV (ac ar (ac ar (vv 2) (vi 3)) (vi 2))) (eV (vt ""))))) (eY (aa 4) (ac ar (ac ar (vv 2) (vi 3)) (vi 2)) (ac ar (vv 3) (vt "it"))) eJ)
  (ae (au 7 (cS aW))
  (ae (cN (v0 (ac ar (vv 0) (vi 3))) (bn [ak 8,ak 9]) (aJ x h))
  (aL (eV (ah d5 (v1 (vv 7))))))))))
theorem cR (n:Nat):Ph (n+2) "cells_behind"=cI 4 11 (bH (Ph (n+1)) (Ph n)):=by kernel_rfl
noncomputable def bB (h x:Str->GF):ES:=(ae (eA (wv (bV (aE rW (aa 2) (eV (vC (.non))))) (bV (aE eC (eV (ac ar (vv 2) (vi 3))) (eV (vt ""))))) (aL (aa 1)) eJ)
  (aL (eV (ah (pureOf (h "replaced")) (v3 (vv 1) (oe (ac ar (vv 0) (vi 4)) (ac ar (vv 2) (vi 3))) (ac ar (vv 3) (vi 0)))))))
theorem cx (n:Nat):Ph (n+2) "whos_behind"=cI 4 4 (bB (Ph (n+1)) (Ph n)):=by kernel_rfl
noncomputable def bR (h x:Str->GF):ES:=(ae (eA (bV (aE eC (aa 2) (eV (vt "who")))) (aL (eV (a_ (v1 (aD (v2 (aD aW) (a_ (v1 (ac ar (vv 4) (oe (ac ar (vE (dm (mT Tb h) (aa 0) "family_of" (ab (aa 1) aY))) (vi 4)) (vv 3))))))))))) eJ)
  (ae (au 5 (dm (mT Tb h) (aa 0) "hands_beside" (ab (aa 1) (ab (aa 3) aY))))
  (ae (eA (bV (aE eC (aa 2) (eV (vt "all")))) (aL (eV (a_ (v1 (aD (v2 (aD aW) (vv 5))))))) eJ)
  (aL (eV (aU (iR (vv 5)) [] 1 (ak 6) dZ (aD (v2 (aD (v1 (vv 6))) (a_ (v1 (vv 6)))))))))))
theorem cQ (n:Nat):Ph (n+2) "targets_of"=cI 5 6 (bR (Ph (n+1)) (Ph n)):=by kernel_rfl
noncomputable def dY (h x:Str->GF):ES:=(ae (au 6 (tj (dD (aT Att) (aa 0) "places") (v2 (vv 2) (vv 5))))
  (ae (eA (wv (bV (aE rW (aa 6) (eV (vC (.non))))) (bV (ac Cf (ah lY (v1 (ac ar (vv 4) (vi 1)))) (vi 999)))) (aL (eV (vC (.non)))) eJ)
  (ae (au 7 (tf (tf (dD (aT Att) (aa 0) "pairs") (vv 6)) (vi 0)))
  (ae (eA (bV (ac G9 (dR (eV (ac ar (vv 1) (vv 6)))) (ac ar (vv 7) (vi 3)))) (aL (eV (vC (.non)))) eJ)
  (ae (au 8 (eV (ac aC (ac ar (vv 1) (vv 6)) (aD (v1 (vv 4))))))
  (ae (eA (bV (aE eC (eV (ac ar (vv 7) (vi 2))) (eV (vt "heap")))) (au 8 (eV (ah d5 (v1 (vq (aa 8)))))) eJ)
  (au 1 (eV (ah (pureOf (h "replaced")) (v3 (vv 1) (vv 6) (vv 8)))))))))))
noncomputable def eD (x h:Str->GF):ES:=(ae (cN (iR (vv 3)) (ak 5) (dY x h))
  (aL (aa 1)))
theorem gI (n:Nat):Ph (n+2) "posted"=cI 5 9 (eD (Ph (n+1)) (Ph n)):=by kernel_rfl
noncomputable def d8 (h x:Str->GF):ES:=(ae (au 17 (eV (b7 (h "posted") (ab (aa 0) (ab (aa 14) (ab (aa 1) (ab (aa 16) (ab (aa 11) aY))))))))
  (eA (bV (aE cW (aa 17) (eV (vC (.non))))) (ci (bS (aa 12) (eV (aD (v2 (ac aC (vv 13) (vv 15)) (vv 17)))))) eJ))
noncomputable def d7 (h x:Str->GF):ES:=(cN (iR (b7 (h "targets_of") (ab (aa 0) (ab (aa 1) (ab (aa 9) (ab (aa 10) (ab (aa 5) aY))))))) (bn [ak 15,ak 16]) (d8 h x))
noncomputable def d6 (h x:Str->GF):ES:=(ae (au 11 (eV (aD (v2 (vv 7) (ah (pureOf (h "value_of")) (v2 (vv 8) (vv 3)))))))
  (ae (au 12 (cS aW))
  (ae (cN (iR (vv 6)) (bn [ak 13,ak 14]) (d7 h x))
  (au 6 (aa 12)))))
noncomputable def dL (x h:Str->GF):ES:=(ae (au 6 (eV (a_ (v1 (aD (v2 (aD aW) (vv 4)))))))
  (ae (cN (iR (vv 2)) (bn [ak 7,ak 8,ak 9,ak 10]) (d6 x h))
  (aL (aa 6))))
theorem f_ (n:Nat):Ph (n+2) "sendings"=cI 6 18 (dL (Ph (n+1)) (Ph n)):=by kernel_rfl
noncomputable def fo (x h:Str->GF):ES:=(ci (bS (aa 13) (eV (aD (v2 (aD (v5 (vt "step") (vv 2) (ac ar (vv 3) (vi 0)) (vv 4) (vv 14))) (aD (v2 (vv 12) (vv 15))))))))
noncomputable def bL (h x:Str->GF):ES:=(ae (au 5 (dm (mT Tb h) (aa 0) "family_of" (ab (aa 2) aY)))
  (ae (ni (bn [ak 6,ak 7,ak 8]) (ac ar (ac ar (vv 1) (vi 0)) (vv 2)))
  (ae (au 9 (eV (ac ar (vv 1) (vi 1))))
  (ae (au 10 (fR (h "values_of") (ab (aa 5) (ab (aa 7) aY))))
  (ae (eA (bV (aE cW (aa 4) (eV (vC (.non))))) (ae (au 11 (uW (dD (aT Att) (aa 0) "places") (v2 (ac ar (vv 4) (vi 0)) (vv 2))))
  (ae (eY (aa 10) (vt "it") (ac ar (ac ar (ac ar (vv 9) (vv 11)) (ac ar (vv 4) (vi 1))) (vi 1)))
  (au 9 (eV (ah (pureOf (h "replaced")) (v3 (vv 9) (vv 11) (ah (pureOf (h "without")) (v2 (ac ar (vv 9) (vv 11)) (ac ar (vv 4) (vi 1)))))))))) eJ)
  (ae (au 7 (eV (ah (pureOf (h "cells_behind")) (v4 (vv 5) (vv 7) (vv 3) (vv 10)))))
  (ae (eA (bV (aE rW (aa 7) (eV (vC (.non))))) (aL (eV (a_ aW))) eJ)
  (ae (au 8 (eV (ah (pureOf (h "whos_behind")) (v4 (vv 5) (vv 8) (ac ar (vv 3) (vi 3)) (vv 4)))))
  (ae (au 12 (eV (ah (pureOf (h "replaced")) (v3 (ac ar (vv 1) (vi 0)) (vv 2) (aD (v3 (oe (ac ar (vv 5) (vi 2)) (ac ar (vv 3) (vi 6))) (vv 7) (vv 8)))))))
  (ae (au 13 (cS aW))
  (ae (cN (iR (b7 (h "sendings") (ab (aa 0) (ab (aa 2) (ab (eV (ac ar (vv 3) (vi 5))) (ab (aa 10) (ab (aa 9) (ab (aa 8) aY)))))))) (bn [ak 14,ak 15]) (fo h x))
  (aL (aa 13)))))))))))))
theorem dW (n:Nat):Ph (n+2) "step_ends"=cI 5 16 (bL (Ph (n+1)) (Ph n)):=by kernel_rfl
noncomputable def fw (h x:Str->GF):ES:=(ci (dn (aa 8) (b7 (h "step_ends") (ab (aa 0) (ab (aa 1) (ab (aa 2) (ab (aa 9) (ab (aa 10) aY))))))))
noncomputable def cU (h x:Str->GF):ES:=(eA (gi (bV (aE eC (eV (ac ar (vv 9) (vi 1))) (eV (ac ar (ac ar (vv 3) (vi 2)) (vv 4))))) (bT (eV (ah (pureOf (h "holds")) (v2 (ac ar (vv 9) (vi 2)) (vv 7)))))) (cN (iR (b7 (h "takeable") (ab (aa 0) (ab (eV (ac ar (vv 1) (vi 1))) (ab (aa 2) (ab (eV (ac ar (vv 9) (vi 3))) aY)))))) (ak 10) (fw h x)) eJ)
noncomputable def cF (h x:Str->GF):ES:=(ae (au 3 (dm (mT Tb h) (aa 0) "family_of" (ab (aa 2) aY)))
  (ae (ni (bn [ak 4,ak 5,ak 6]) (ac ar (ac ar (vv 1) (vi 0)) (vv 2)))
  (ae (au 7 (eV (ah (pureOf (h "values_of")) (v2 (vv 3) (vv 5)))))
  (ae (au 8 (cS aW))
  (ae (cN (iR (ac ar (vv 3) (vi 5))) (ak 9) (cU h x))
  (aL (aa 8)))))))
theorem fE (n:Nat):Ph (n+2) "hand_ends"=cI 3 11 (cF (Ph (n+1)) (Ph n)):=by kernel_rfl
noncomputable def jo (h x:Str->GF):ES:=(ci (dn (aa 2) (b7 (h "hand_ends") (ab (aa 0) (ab (aa 1) (ab (aa 3) aY))))))
noncomputable def jq (h x:Str->GF):ES:=(ae (au 2 (cS aW))
  (ae (cN (g0 (dR (dD (aT Att) (aa 0) "homes"))) (ak 3) (jo h x))
  (ae (ci (dn (aa 2) (b7 (h "flaw_ends") (ab (aa 0) (ab (aa 1) (ab (eV (vt "lose")) aY))))))
  (ae (ci (dn (aa 2) (b7 (h "flaw_ends") (ab (aa 0) (ab (aa 1) (ab (eV (vt "double")) aY))))))
  (aL (aa 2))))))
theorem sZ (n:Nat):Ph (n+2) "ends_on"=cI 2 4 (jq (Ph (n+1)) (Ph n)):=by kernel_rfl
noncomputable def bW (h x:Str->GF):ES:=(ci (bS (mO (dD (aT Att) (aa 0) "members") (ac ar (vE (dm (mT Tb h) (aa 0) "family_of" (ab (aa 4) aY))) (vi 0)) (cS aW)) (aa 4)))
noncomputable def eX (x h:Str->GF):ES:=(vI (dD (aT Att) (aa 0) "places") (v2 (ac ar (vv 3) (vi 1)) (ac ar (vv 3) (vi 2))) (vv 2))
noncomputable def gK (h x:Str->GF):ES:=(ae (kl (aT Att) (aa 0) "families" (eV (ac ar (vv 1) (vi 0))))
  (ae (kl (aT Att) (aa 0) "homes" (fR (h "families_of") (ab (aa 1) aY)))
  (ae (kl (aT Att) (aa 0) "pairs" (fR (h "pairs_of") (ab (aa 1) aY)))
  (ae (kl (aT Att) (aa 0) "places" qS)
  (ae (cN (v0 (vE (dD (aT Att) (aa 0) "pairs"))) (bn [ak 2,ak 3]) (eX h x))
  (ae (kl (aT Att) (aa 0) "members" lU)
  (cN (g0 (dR (dD (aT Att) (aa 0) "homes"))) (ak 4) (bW h x))))))))
theorem nO (n:Nat):Ph (n+2) "Board.__init__"=cI 2 5 (gK (Ph (n+1)) (Ph n)):=by kernel_rfl
noncomputable def jS (x h:Str->GF):ES:=(aL (eV (b7 (x "ends_on") (ab (nQ (h "Board.__init__") "Board" (ab (aa 0) aY)) (ab (aa 1) aY)))))
theorem oD (n:Nat):Ph (n+2) "ends_from"=cI 2 2 (jS (Ph (n+1)) (Ph n)):=by kernel_rfl
noncomputable def db (h x:Str->GF):ES:=(ae (au 7 (eV (ah (pureOf (h "ends_from")) (v2 (vv 1) (vE (tf (aa 4) (CC u5 (vi 1))))))))
  (ae (eA (bV (aE eC (aa 7) (eV (a_ aW)))) HF eJ)
  (ae (ni (bn [ak 8,ak 9]) (ac ar (vv 7) (ac bb (ah (pureOf (h "_law_mix")) (v2 (ah (pureOf (h "_law_cell_at")) (v2 (vv 0) (ac aC (vv 2) (vv 6)))) (vi 45))) (dR (aa 7)))))
  (ae (ci (bS (aa 5) (aa 8)))
  (ci (bS (aa 4) (aa 9)))))))
noncomputable def kN (h x:Str->GF):ES:=(ae (au 4 (cS (v1 (ah (pureOf (h "begin")) (v1 (vv 1))))))
  (ae (au 5 (cS aW))
  (ae (cN (g0 (vv 3)) (ak 6) (db h x))
  (aL (eV (aD (v2 (vv 4) (vv 5))))))))
theorem qQ (n:Nat):Ph (n+2) "_law_gone"=cI 4 10 (kN (Ph (n+1)) (Ph n)):=by kernel_rfl
noncomputable def fm (x h:Str->GF):ES:=(ci (dn (aa 2) (aU (g0 (dR (aa 1))) [] 1 (ak 5) (bV (aE eC (eV (ac ar (ac ar (ac ar (vv 0) (vi 0)) (ac ar (vv 1) (vv 5))) (vi 0))) (eV (ac ar (vv 4) (vi 1))))) (aD (v2 (vv 3) (vv 5))))))
noncomputable def jO (h x:Str->GF):ES:=(ae (au 1 (eV (ah (pureOf (h "families_of")) (v1 (vv 0)))))
  (ae (au 2 (cS aW))
  (ae (cN (v0 (ac ar (vv 0) (vi 2))) (bn [ak 3,ak 4]) (fm h x))
  (aL (aa 2)))))
theorem ow (n:Nat):Ph (n+2) "wishes_of"=cI 1 5 (jO (Ph (n+1)) (Ph n)):=by kernel_rfl
noncomputable def fK (x h:Str->GF):ES:=(ae (ni (bn [ak 3,ak 4]) (vv 1))
  (aL (eV (aE eC (eV (im (vv 2) gN (cy (vi 3)))) (eV (aD (v3 (vt "step") (vv 4) (ac ar (ac ar (ac ar (vv 0) (vi 2)) (vv 3)) (vi 2)))))))))
theorem gR (n:Nat):Ph (n+2) "done_by"=cI 3 5 (fK (Ph (n+1)) (Ph n)):=by kernel_rfl
noncomputable def dF (h x:Str->GF):ES:=(aL (eV (ah hZ (v1 (aU (iR (b7 (h "hand_ends") (ab (aa 0) (ab (aa 2) (ab (eV (ac ar (vv 3) (vi 1))) aY))))) [] 1 (ak 4) dZ (ah (pureOf (h "done_by")) (v3 (vv 1) (vv 3) (ac ar (vv 4) (vi 0)))))))))
theorem gS (n:Nat):Ph (n+2) "able_on"=cI 4 4 (dF (Ph (n+1)) (Ph n)):=by kernel_rfl
noncomputable def t5 (x h:Str->GF):ES:=(aL (eV (b7 (x "able_on") (ab (nQ (h "Board.__init__") "Board" (ab (aa 0) aY)) (ab (aa 0) (ab (aa 1) (ab (aa 2) aY)))))))
theorem zH (n:Nat):Ph (n+2) "able"=cI 3 3 (t5 (Ph (n+1)) (Ph n)):=by kernel_rfl
noncomputable def eU (h x:Str->GF):ES:=(eA (bT (eV (ah (pureOf (h "done_by")) (v3 (vv 0) (vv 1) (vv 4))))) (aL (eV (vC (.bl true)))) eJ)
noncomputable def gW (h x:Str->GF):ES:=(ae (cN (iR (vv 3)) (ak 4) (eU h x))
  (ae (au 5 (eV (aU (iR (vv 2)) [] 1 (ak 6) dZ (ah (pureOf (h "able")) (v3 (vv 0) (vv 6) (vv 1))))))
  (ae (eA (bV (aE eC (eV (ac ar (ac ar (ac ar (vv 0) (vi 2)) (ac ar (vv 1) (vi 0))) (vi 0))) (eV (vt "strong")))) (aL (eV (aE jd (eV (vC (.bl true))) (aa 5)))) eJ)
  (aL (eV (aE Af (eV (vC (.bl false))) (aa 5)))))))
theorem jg (n:Nat):Ph (n+2) "_law_due"=cI 4 6 (gW (Ph (n+1)) (Ph n)):=by kernel_rfl
noncomputable def jA (h x:Str->GF):ES:=(ae (eA (bT (eV (ah hZ (v1 (aU (iR (vv 3)) [] 1 (ak 6) dZ (ah (pureOf (h "done_by")) (v3 (vv 0) (vv 1) (vv 6)))))))) (aL (eV (vC (.bl true)))) eJ)
  (ae (au 4 (nQ (x "Board.__init__") "Board" (ab (aa 0) aY)))
  (ae (au 5 (eV (aU (iR (vv 2)) [] 1 (ak 6) dZ (b7 (h "able_on") (ab (aa 4) (ab (aa 0) (ab (aa 6) (ab (aa 1) aY))))))))
  (ae (eA (bV (aE eC (eV (ac ar (ac ar (ac ar (vv 0) (vi 2)) (ac ar (vv 1) (vi 0))) (vi 0))) (eV (vt "weak")))) (aL (eV (vB (mu (bV (ah kI (v1 (vv 5)))))))) eJ)
  (aL (eV (vB (mu (bV (ah hZ (v1 (vv 5))))))))))))
theorem lC (n:Nat):Ph (n+2) "keeps"=cI 4 6 (jA (Ph (n+1)) (Ph n)):=by kernel_rfl
noncomputable def j9 (h x:Str->GF):ES:=(ae (au 8 (eV (ah (pureOf (h "_law_due")) (v4 (vv 1) (vv 7) (im (vv 2) (cy (vv 4)) (cy (vv 5))) (im (vv 3) (cy (vv 4)) (cy (vv 5)))))))
  (ae (au 9 (eV (ah (pureOf (h "keeps")) (v4 (vv 1) (vv 7) (ac ar (vv 6) (vi 0)) (ac ar (vv 6) (vi 1))))))
  (ae (eA (wv (mu (bT (eV (xU "bool" (aa 9))))) (bV (aE ou (aa 9) (aa 8)))) (aL (eV (vC (.bl false)))) eJ)
  (eA (bV (aE ou (aa 6) (eV (a_ (v2 (im (vv 2) (cy (vv 4)) (cy (vv 5))) (im (vv 3) (cy (vv 4)) (cy (vv 5)))))))) (aL (eV (vC (.bl false)))) eJ))))
noncomputable def iD (h x:Str->GF):ES:=(ae (eA (gi (bV (aE jd (eV (ac tL (vv 5) (vv 4))) (eV (a_ (v2 (vi 1) (vi 3)))))) (wv (bV (ac Cf (vv 4) (vi 2))) (bV (aE ou (eV (ac ar (vv 2) (vv 4))) (eV (ac ar (vv 2) (vv 5))))))) HE eJ)
  (ae (au 6 (eV (a_ (v2 (im (vv 2) (cy (vv 4)) (cy (vv 5))) (im (vv 3) (cy (vv 4)) (cy (vv 5)))))))
  (cN (iR (Au (ah (pureOf (h "wishes_of")) (v1 (vv 1))) (cy (ac bb (vv 4) (vi 3))) gN (cy (vi 3)))) (ak 7) (j9 h x))))
noncomputable def j8 (x h:Str->GF):ES:=(cN (Bl (ac aC (vv 4) (vi 1)) (ac aC (dR (aa 3)) (vi 1))) (ak 5) (iD x h))
noncomputable def wu (h x:Str->GF):ES:=(ae (au 1 (eV (ah (pureOf (h "_law_plan")) (v2 (vv 0) (vi 3)))))
  (ae (ni (bn [ak 2,ak 3]) (ah (pureOf (h "_law_gone")) (v4 (vv 0) (vv 1) (vi 34) (vi 12))))
  (ae (cN (g0 (dR (aa 3))) (ak 4) (j8 h x))
  (aL (eV (vC (.bl true)))))))
theorem Bv (n:Nat):Ph (n+2) "law"=cI 1 10 (wu (Ph (n+1)) (Ph n)):=by kernel_rfl
variable {a:Type}{m:List a}
theorem Gj (h:m.length=1):∃a,m=[a]:=by
 match m,h with
 | [a],_=>exact⟨a,rfl⟩
theorem uM (h:m.length=2):∃a b,m=[a,b]:=by
 match m,h with
 | [a,b],_=>exact⟨a,b,rfl⟩
theorem y0 (h:m.length=3):∃a b c,m=[a,b,c]:=by
 match m,h with
 | [a,b,c],_=>exact⟨a,b,c,rfl⟩
theorem DG (h:m.length=4):∃a b c d,m=[a,b,c,d]:=by
 match m,h with
 | [a,b,c,d],_=>exact⟨a,b,c,d,rfl⟩
theorem JH (h:m.length=5):∃a b c d e,m=[a,b,c,d,e]:=by
 match m,h with
 | [a,b,c,d,e],_=>exact⟨a,b,c,d,e,rfl⟩
theorem HS (h:m.length=6):∃a b c d e g,m=[a,b,c,d,e,g]:=by
 match m,h with
 | [a,b,c,d,e,g],_=>exact⟨a,b,c,d,e,g,rfl⟩
theorem sc:Tb.all HB=true:=by decide +kernel
theorem un:(Tb.map (·.name)).Nodup:=by decide +kernel
open PySem.W in
theorem Ei (X:K.In h) (G:h.Ns mainGlobals mg)
  (s:nsIn K mainGlobals "Board"=some (some (.ref C))) (b:plainGet K C Str.empty=true) (n:hasDictIn K C=true) (a:plainOver K C=true) (k:findIn K (.ref C) "__setattr__"=some (some (.builtin "object.__setattr__"))) (cf0:makesIn K C=true) (cg0:keepIn K (.ref C)=true)
  (j:findIn K (.ref C) "families"=some none)
  (y:findIn K (.ref C) "homes"=some none)
  (o:findIn K (.ref C) "members"=some none)
  (H:findIn K (.ref C) "pairs"=some none)
  (S:findIn K (.ref C) "places"=some none)
  (a0:nsIn K mainGlobals "_law_cell_at"=some (some (.ref f0)))
  (l0:K.lookup f0=some ⟨oc0,od0,.func (fnOf "_law_cell_at" "_law_cell_at" (aw (ao 35)) (aq (ao 35)) (ai (ao 35)) .none kV0 dc0 pm0 an0 cd0 ct0),sl0⟩) (c0:codeIn K cd0 "_law_cell_at"=true) (k0:keepIn K (.ref f0)=true)
  (a1:nsIn K mainGlobals "_law_mix"=some (some (.ref f1)))
  (l1:K.lookup f1=some ⟨oc1,od1,.func (fnOf "_law_mix" "_law_mix" (aw (ao 36)) (aq (ao 36)) (ai (ao 36)) .none kV1 dc1 pm1 an1 cd1 ct1),sl1⟩) (c1:codeIn K cd1 "_law_mix"=true) (k1:keepIn K (.ref f1)=true)
  (a2:nsIn K mainGlobals "_law_roads"=some (some (.ref f2)))
  (l2:K.lookup f2=some ⟨oc2,od2,.func (fnOf "_law_roads" "_law_roads" (aw (ao 41)) (aq (ao 41)) (ai (ao 41)) .none kV2 dc2 pm2 an2 cd2 ct2),sl2⟩) (c2:codeIn K cd2 "_law_roads"=true) (k2:keepIn K (.ref f2)=true)
  (a3:nsIn K mainGlobals "_law_name"=some (some (.ref f3)))
  (l3:K.lookup f3=some ⟨oc3,od3,.func (fnOf "_law_name" "_law_name" (aw (ao 37)) (aq (ao 37)) (ai (ao 37)) .none kV3 dc3 pm3 an3 cd3 ct3),sl3⟩) (c3:codeIn K cd3 "_law_name"=true) (k3:keepIn K (.ref f3)=true)
  (a4:nsIn K mainGlobals "_law_cells"=some (some (.ref f4)))
  (l4:K.lookup f4=some ⟨oc4,od4,.func (fnOf "_law_cells" "_law_cells" (aw (ao 38)) (aq (ao 38)) (ai (ao 38)) .none kV4 dc4 pm4 an4 cd4 ct4),sl4⟩) (c4:codeIn K cd4 "_law_cells"=true) (k4:keepIn K (.ref f4)=true)
  (a5:nsIn K mainGlobals "_law_sum"=some (some (.ref f5)))
  (l5:K.lookup f5=some ⟨oc5,od5,.func (fnOf "_law_sum" "_law_sum" (aw (ao 39)) (aq (ao 39)) (ai (ao 39)) .none kV5 dc5 pm5 an5 cd5 ct5),sl5⟩) (c5:codeIn K cd5 "_law_sum"=true) (k5:keepIn K (.ref f5)=true)
  (a6:nsIn K mainGlobals "_law_sends"=some (some (.ref f6)))
  (l6:K.lookup f6=some ⟨oc6,od6,.func (fnOf "_law_sends" "_law_sends" (aw (ao 42)) (aq (ao 42)) (ai (ao 42)) .none kV6 dc6 pm6 an6 cd6 ct6),sl6⟩) (c6:codeIn K cd6 "_law_sends"=true) (k6:keepIn K (.ref f6)=true)
  (a7:nsIn K mainGlobals "_law_condition"=some (some (.ref f7)))
  (l7:K.lookup f7=some ⟨oc7,od7,.func (fnOf "_law_condition" "_law_condition" (aw (ao 40)) (aq (ao 40)) (ai (ao 40)) .none kV7 dc7 pm7 an7 cd7 ct7),sl7⟩) (c7:codeIn K cd7 "_law_condition"=true) (k7:keepIn K (.ref f7)=true)
  (a8:nsIn K mainGlobals "_law_step"=some (some (.ref f8)))
  (l8:K.lookup f8=some ⟨oc8,od8,.func (fnOf "_law_step" "_law_step" (aw (ao 43)) (aq (ao 43)) (ai (ao 43)) .none kV8 dc8 pm8 an8 cd8 ct8),sl8⟩) (c8:codeIn K cd8 "_law_step"=true) (k8:keepIn K (.ref f8)=true)
  (a9:nsIn K mainGlobals "_law_family"=some (some (.ref f9)))
  (l9:K.lookup f9=some ⟨oc9,od9,.func (fnOf "_law_family" "_law_family" (aw (ao 44)) (aq (ao 44)) (ai (ao 44)) .none kV9 dc9 pm9 an9 cd9 ct9),sl9⟩) (c9:codeIn K cd9 "_law_family"=true) (k9:keepIn K (.ref f9)=true)
  (a10:nsIn K mainGlobals "_law_plan"=some (some (.ref f10)))
  (l10:K.lookup f10=some ⟨oc10,od10,.func (fnOf "_law_plan" "_law_plan" (aw (ao 45)) (aq (ao 45)) (ai (ao 45)) .none kV10 dc10 pm10 an10 cd10 ct10),sl10⟩) (F:codeIn K cd10 "_law_plan"=true) (k10:keepIn K (.ref f10)=true)
  (a11:nsIn K mainGlobals "families_of"=some (some (.ref f11)))
  (l11:K.lookup f11=some ⟨oc11,od11,.func (fnOf "families_of" "families_of" (aw (ao 8)) (aq (ao 8)) (ai (ao 8)) .none kV11 dc11 pm11 an11 cd11 ct11),sl11⟩) (P:codeIn K cd11 "families_of"=true) (k11:keepIn K (.ref f11)=true)
  (a12:nsIn K mainGlobals "pairs_of"=some (some (.ref f12)))
  (l12:K.lookup f12=some ⟨oc12,od12,.func (fnOf "pairs_of" "pairs_of" (aw (ao 9)) (aq (ao 9)) (ai (ao 9)) .none kV12 dc12 pm12 an12 cd12 ct12),sl12⟩) (A:codeIn K cd12 "pairs_of"=true) (k12:keepIn K (.ref f12)=true)
  (a13:nsIn K mainGlobals "begin"=some (some (.ref f13)))
  (l13:K.lookup f13=some ⟨oc13,od13,.func (fnOf "begin" "begin" (aw (ao 10)) (aq (ao 10)) (ai (ao 10)) .none kV13 dc13 pm13 an13 cd13 ct13),sl13⟩) (B:codeIn K cd13 "begin"=true) (k13:keepIn K (.ref f13)=true)
  (a14:nsIn K mainGlobals "has_flaw"=some (some (.ref f14)))
  (l14:K.lookup f14=some ⟨oc14,od14,.func (fnOf "has_flaw" "has_flaw" (aw (ao 24)) (aq (ao 24)) (ai (ao 24)) .none kV14 dc14 pm14 an14 cd14 ct14),sl14⟩) (D:codeIn K cd14 "has_flaw"=true) (k14:keepIn K (.ref f14)=true)
  (a15:nsIn K mainGlobals "unlike_spots"=some (some (.ref f15)))
  (l15:K.lookup f15=some ⟨oc15,od15,.func (fnOf "unlike_spots" "unlike_spots" (aw (ao 16)) (aq (ao 16)) (ai (ao 16)) .none kV15 dc15 pm15 an15 cd15 ct15),sl15⟩) (E:codeIn K cd15 "unlike_spots"=true) (k15:keepIn K (.ref f15)=true)
  (a16:nsIn K mainGlobals "replaced"=some (some (.ref f16)))
  (l16:K.lookup f16=some ⟨oc16,od16,.func (fnOf "replaced" "replaced" (aw (ao 27)) (aq (ao 27)) (ai (ao 27)) .none kV16 dc16 pm16 an16 cd16 ct16),sl16⟩) (I:codeIn K cd16 "replaced"=true) (k16:keepIn K (.ref f16)=true)
  (a17:nsIn K mainGlobals "without"=some (some (.ref f17)))
  (l17:K.lookup f17=some ⟨oc17,od17,.func (fnOf "without" "without" (aw (ao 26)) (aq (ao 26)) (ai (ao 26)) .none kV17 dc17 pm17 an17 cd17 ct17),sl17⟩) (J:codeIn K cd17 "without"=true) (k17:keepIn K (.ref f17)=true)
  (a18:nsIn K mainGlobals "flawed"=some (some (.ref f18)))
  (l18:K.lookup f18=some ⟨oc18,od18,.func (fnOf "flawed" "flawed" (aw (ao 25)) (aq (ao 25)) (ai (ao 25)) .none kV18 dc18 pm18 an18 cd18 ct18),sl18⟩) (L:codeIn K cd18 "flawed"=true) (k18:keepIn K (.ref f18)=true)
  (a19:nsIn K mainGlobals "flaw_ends"=some (some (.ref f19)))
  (l19:K.lookup f19=some ⟨oc19,od19,.func (fnOf "flaw_ends" "flaw_ends" (aw (ao 23)) (aq (ao 23)) (ai (ao 23)) .none kV19 dc19 pm19 an19 cd19 ct19),sl19⟩) (M:codeIn K cd19 "flaw_ends"=true) (k19:keepIn K (.ref f19)=true)
  (a20:findIn K (.ref C) "family_of"=some (some (.ref t))) (w20:isFn K (.ref t)=true)
  (l20:K.lookup t=some ⟨oc20,od20,.func (fnOf "family_of" "Board.family_of" (aw (L2.cq (ao 7) 1)) (aq (L2.cq (ao 7) 1)) (ai (L2.cq (ao 7) 1)) .none kV20 dc20 pm20 an20 cd20 ct20),sl20⟩) (N:codeIn K cd20 "Board.family_of"=true) (g:keepIn K (.ref t)=true)
  (a21:nsIn K mainGlobals "values_of"=some (some (.ref f21)))
  (l21:K.lookup f21=some ⟨oc21,od21,.func (fnOf "values_of" "values_of" (aw (ao 14)) (aq (ao 14)) (ai (ao 14)) .none kV21 dc21 pm21 an21 cd21 ct21),sl21⟩) (O:codeIn K cd21 "values_of"=true) (k21:keepIn K (.ref f21)=true)
  (a22:nsIn K mainGlobals "compared"=some (some (.ref f22)))
  (l22:K.lookup f22=some ⟨oc22,od22,.func (fnOf "compared" "compared" (aw (ao 3)) (aq (ao 3)) (ai (ao 3)) .none kV22 dc22 pm22 an22 cd22 ct22),sl22⟩) (Q:codeIn K cd22 "compared"=true) (k22:keepIn K (.ref f22)=true)
  (a23:nsIn K mainGlobals "value_of"=some (some (.ref f23)))
  (l23:K.lookup f23=some ⟨oc23,od23,.func (fnOf "value_of" "value_of" (aw (ao 1)) (aq (ao 1)) (ai (ao 1)) .none kV23 dc23 pm23 an23 cd23 ct23),sl23⟩) (R:codeIn K cd23 "value_of"=true) (k23:keepIn K (.ref f23)=true)
  (a24:nsIn K mainGlobals "holds"=some (some (.ref f24)))
  (l24:K.lookup f24=some ⟨oc24,od24,.func (fnOf "holds" "holds" (aw (ao 2)) (aq (ao 2)) (ai (ao 2)) .none kV24 dc24 pm24 an24 cd24 ct24),sl24⟩) (T:codeIn K cd24 "holds"=true) (k24:keepIn K (.ref f24)=true)
  (a25:findIn K (.ref C) "hands_beside"=some (some (.ref p))) (w25:isFn K (.ref p)=true)
  (l25:K.lookup p=some ⟨oc25,od25,.func (fnOf "hands_beside" "Board.hands_beside" (aw (L2.cq (ao 7) 2)) (aq (L2.cq (ao 7) 2)) (ai (L2.cq (ao 7) 2)) .none kV25 dc25 pm25 an25 cd25 ct25),sl25⟩) (U:codeIn K cd25 "Board.hands_beside"=true) (i:keepIn K (.ref p)=true)
  (a26:nsIn K mainGlobals "takeable"=some (some (.ref f26)))
  (l26:K.lookup f26=some ⟨oc26,od26,.func (fnOf "takeable" "takeable" (aw (ao 15)) (aq (ao 15)) (ai (ao 15)) .none kV26 dc26 pm26 an26 cd26 ct26),sl26⟩) (V:codeIn K cd26 "takeable"=true) (k26:keepIn K (.ref f26)=true)
  (a27:nsIn K mainGlobals "cells_behind"=some (some (.ref f27)))
  (l27:K.lookup f27=some ⟨oc27,od27,.func (fnOf "cells_behind" "cells_behind" (aw (ao 18)) (aq (ao 18)) (ai (ao 18)) .none kV27 dc27 pm27 an27 cd27 ct27),sl27⟩) (W:codeIn K cd27 "cells_behind"=true) (k27:keepIn K (.ref f27)=true)
  (a28:nsIn K mainGlobals "whos_behind"=some (some (.ref f28)))
  (l28:K.lookup f28=some ⟨oc28,od28,.func (fnOf "whos_behind" "whos_behind" (aw (ao 19)) (aq (ao 19)) (ai (ao 19)) .none kV28 dc28 pm28 an28 cd28 ct28),sl28⟩) (Y:codeIn K cd28 "whos_behind"=true) (k28:keepIn K (.ref f28)=true)
  (a29:nsIn K mainGlobals "targets_of"=some (some (.ref f29)))
  (l29:K.lookup f29=some ⟨oc29,od29,.func (fnOf "targets_of" "targets_of" (aw (ao 21)) (aq (ao 21)) (ai (ao 21)) .none kV29 dc29 pm29 an29 cd29 ct29),sl29⟩) (Z:codeIn K cd29 "targets_of"=true) (k29:keepIn K (.ref f29)=true)
  (a30:nsIn K mainGlobals "posted"=some (some (.ref f30)))
  (l30:K.lookup f30=some ⟨oc30,od30,.func (fnOf "posted" "posted" (aw (ao 22)) (aq (ao 22)) (ai (ao 22)) .none kV30 dc30 pm30 an30 cd30 ct30),sl30⟩) (c30:codeIn K cd30 "posted"=true) (k30:keepIn K (.ref f30)=true)
  (a31:nsIn K mainGlobals "sendings"=some (some (.ref f31)))
  (l31:K.lookup f31=some ⟨oc31,od31,.func (fnOf "sendings" "sendings" (aw (ao 20)) (aq (ao 20)) (ai (ao 20)) .none kV31 dc31 pm31 an31 cd31 ct31),sl31⟩) (c31:codeIn K cd31 "sendings"=true) (k31:keepIn K (.ref f31)=true)
  (a32:nsIn K mainGlobals "step_ends"=some (some (.ref f32)))
  (l32:K.lookup f32=some ⟨oc32,od32,.func (fnOf "step_ends" "step_ends" (aw (ao 17)) (aq (ao 17)) (ai (ao 17)) .none kV32 dc32 pm32 an32 cd32 ct32),sl32⟩) (c32:codeIn K cd32 "step_ends"=true) (k32:keepIn K (.ref f32)=true)
  (a33:nsIn K mainGlobals "hand_ends"=some (some (.ref f33)))
  (l33:K.lookup f33=some ⟨oc33,od33,.func (fnOf "hand_ends" "hand_ends" (aw (ao 13)) (aq (ao 13)) (ai (ao 13)) .none kV33 dc33 pm33 an33 cd33 ct33),sl33⟩) (c33:codeIn K cd33 "hand_ends"=true) (k33:keepIn K (.ref f33)=true)
  (a34:nsIn K mainGlobals "ends_on"=some (some (.ref f34)))
  (l34:K.lookup f34=some ⟨oc34,od34,.func (fnOf "ends_on" "ends_on" (aw (ao 12)) (aq (ao 12)) (ai (ao 12)) .none kV34 dc34 pm34 an34 cd34 ct34),sl34⟩) (c34:codeIn K cd34 "ends_on"=true) (k34:keepIn K (.ref f34)=true)
  (a35:findIn K (.ref C) "__init__"=some (some (.ref q))) (w35:isFn K (.ref q)=true)
  (l35:K.lookup q=some ⟨oc35,od35,.func (fnOf "__init__" "Board.__init__" (aw (L2.cq (ao 7) 0)) (aq (L2.cq (ao 7) 0)) (ai (L2.cq (ao 7) 0)) .none kV35 dc35 pm35 an35 cd35 ct35),sl35⟩) (c35:codeIn K cd35 "Board.__init__"=true) (k35:keepIn K (.ref q)=true)
  (a36:nsIn K mainGlobals "ends_from"=some (some (.ref f36)))
  (l36:K.lookup f36=some ⟨oc36,od36,.func (fnOf "ends_from" "ends_from" (aw (ao 11)) (aq (ao 11)) (ai (ao 11)) .none kV36 dc36 pm36 an36 cd36 ct36),sl36⟩) (c36:codeIn K cd36 "ends_from"=true) (k36:keepIn K (.ref f36)=true)
  (a37:nsIn K mainGlobals "_law_gone"=some (some (.ref f37)))
  (l37:K.lookup f37=some ⟨oc37,od37,.func (fnOf "_law_gone" "_law_gone" (aw (ao 46)) (aq (ao 46)) (ai (ao 46)) .none kV37 dc37 pm37 an37 cd37 ct37),sl37⟩) (c37:codeIn K cd37 "_law_gone"=true) (k37:keepIn K (.ref f37)=true)
  (a38:nsIn K mainGlobals "wishes_of"=some (some (.ref f38)))
  (l38:K.lookup f38=some ⟨oc38,od38,.func (fnOf "wishes_of" "wishes_of" (aw (ao 29)) (aq (ao 29)) (ai (ao 29)) .none kV38 dc38 pm38 an38 cd38 ct38),sl38⟩) (c38:codeIn K cd38 "wishes_of"=true) (k38:keepIn K (.ref f38)=true)
  (a39:nsIn K mainGlobals "done_by"=some (some (.ref f39)))
  (l39:K.lookup f39=some ⟨oc39,od39,.func (fnOf "done_by" "done_by" (aw (ao 30)) (aq (ao 30)) (ai (ao 30)) .none kV39 dc39 pm39 an39 cd39 ct39),sl39⟩) (c39:codeIn K cd39 "done_by"=true) (k39:keepIn K (.ref f39)=true)
  (a40:nsIn K mainGlobals "able_on"=some (some (.ref f40)))
  (l40:K.lookup f40=some ⟨oc40,od40,.func (fnOf "able_on" "able_on" (aw (ao 32)) (aq (ao 32)) (ai (ao 32)) .none kV40 dc40 pm40 an40 cd40 ct40),sl40⟩) (c40:codeIn K cd40 "able_on"=true) (k40:keepIn K (.ref f40)=true)
  (a41:nsIn K mainGlobals "able"=some (some (.ref f41)))
  (l41:K.lookup f41=some ⟨oc41,od41,.func (fnOf "able" "able" (aw (ao 31)) (aq (ao 31)) (ai (ao 31)) .none kV41 dc41 pm41 an41 cd41 ct41),sl41⟩) (c41:codeIn K cd41 "able"=true) (k41:keepIn K (.ref f41)=true)
  (a42:nsIn K mainGlobals "_law_due"=some (some (.ref f42)))
  (l42:K.lookup f42=some ⟨oc42,od42,.func (fnOf "_law_due" "_law_due" (aw (ao 47)) (aq (ao 47)) (ai (ao 47)) .none kV42 dc42 pm42 an42 cd42 ct42),sl42⟩) (c42:codeIn K cd42 "_law_due"=true) (k42:keepIn K (.ref f42)=true)
  (a43:nsIn K mainGlobals "keeps"=some (some (.ref f43)))
  (l43:K.lookup f43=some ⟨oc43,od43,.func (fnOf "keeps" "keeps" (aw (ao 33)) (aq (ao 33)) (ai (ao 33)) .none kV43 dc43 pm43 an43 cd43 ct43),sl43⟩) (c43:codeIn K cd43 "keeps"=true) (k43:keepIn K (.ref f43)=true)
  (a44:nsIn K mainGlobals "law"=some (some (.ref f44)))
  (l44:K.lookup f44=some ⟨oc44,od44,.func (fnOf "law" "law" (aw (ao 48)) (aq (ao 48)) (ai (ao 48)) .none kV44 dc44 pm44 an44 cd44 ct44),sl44⟩) (c44:codeIn K cd44 "law"=true) (k44:keepIn K (.ref f44)=true) (glb0:nsIn K mainGlobals "HIGHEST_LETTER"=some (some (.int 999 gt0))) (glb1:nsIn K mainGlobals "NOBODY"=some (some (.int (-1) gt1)))
  (z:∀x ∈ BJ,nsIn K mainGlobals x=some none)
  : TOk w Gv Att Tb K mg:=by
 refine⟨fun d hd=>?_,sc,un,fun x u=>mg_none_of X G (z x u),fun x v r=>?_,fun c f hc=>?_⟩
 .rcases av.mp hd with hd | hd
  .subst hd;exact⟨_,_,⟨aj (st:=(ao 35)) l0 c0 k0,(aj (st:=(ao 35)) l0 c0 k0).binds (ps:=["_law_script","_law_k"]) fun _ _ _ _ _ _ m l=>by obtain⟨_,_,rfl⟩:=uM l;rfl,fun _=>aG X G a0,fun h=>absurd h (by decide +kernel)⟩⟩
  rcases av.mp hd with hd | hd
  .subst hd;exact⟨_,_,⟨aj (st:=(ao 36)) l1 c1 k1,(aj (st:=(ao 36)) l1 c1 k1).binds (ps:=["_law_cell","_law_k"]) fun _ _ _ _ _ _ m l=>by obtain⟨_,_,rfl⟩:=uM l;rfl,fun _=>aG X G a1,fun h=>absurd h (by decide +kernel)⟩⟩
  rcases av.mp hd with hd | hd
  .subst hd;exact⟨_,_,⟨aj (st:=(ao 41)) l2 c2 k2,(aj (st:=(ao 41)) l2 c2 k2).binds (ps:=["_law_script","_law_families","_law_room"]) fun _ _ _ _ _ _ m l=>by obtain⟨_,_,_,rfl⟩:=y0 l;rfl,fun _=>aG X G a2,fun h=>absurd h (by decide +kernel)⟩⟩
  rcases av.mp hd with hd | hd
  .subst hd;exact⟨_,_,⟨aj (st:=(ao 37)) l3 c3 k3,(aj (st:=(ao 37)) l3 c3 k3).binds (ps:=["_law_script","_law_k"]) fun _ _ _ _ _ _ m l=>by obtain⟨_,_,rfl⟩:=uM l;rfl,fun _=>aG X G a3,fun h=>absurd h (by decide +kernel)⟩⟩
  rcases av.mp hd with hd | hd
  .subst hd;exact⟨_,_,⟨aj (st:=(ao 38)) l4 c4 k4,(aj (st:=(ao 38)) l4 c4 k4).binds (ps:=["_law_script","_law_family_here","_law_most"]) fun _ _ _ _ _ _ m l=>by obtain⟨_,_,_,rfl⟩:=y0 l;rfl,fun _=>aG X G a4,fun h=>absurd h (by decide +kernel)⟩⟩
  rcases av.mp hd with hd | hd
  .subst hd;exact⟨_,_,⟨aj (st:=(ao 39)) l5 c5 k5,(aj (st:=(ao 39)) l5 c5 k5).binds (ps:=["_law_drawn","_law_names"]) fun _ _ _ _ _ _ m l=>by obtain⟨_,_,rfl⟩:=uM l;rfl,fun _=>aG X G a5,fun h=>absurd h (by decide +kernel)⟩⟩
  rcases av.mp hd with hd | hd
  .subst hd;exact⟨_,_,⟨aj (st:=(ao 42)) l6 c6 k6,(aj (st:=(ao 42)) l6 c6 k6).binds (ps:=["_law_drawn","_law_family_here","_law_names","_law_whos","_law_roads_here","_law_most"]) fun _ _ _ _ _ _ m l=>by obtain⟨_,_,_,_,_,_,rfl⟩:=HS l;rfl,fun _=>aG X G a6,fun h=>absurd h (by decide +kernel)⟩⟩
  rcases av.mp hd with hd | hd
  .subst hd;exact⟨_,_,⟨aj (st:=(ao 40)) l7 c7 k7,(aj (st:=(ao 40)) l7 c7 k7).binds (ps:=["_law_drawn","_law_names"]) fun _ _ _ _ _ _ m l=>by obtain⟨_,_,rfl⟩:=uM l;rfl,fun _=>aG X G a7,fun h=>absurd h (by decide +kernel)⟩⟩
  rcases av.mp hd with hd | hd
  .subst hd;exact⟨_,_,⟨aj (st:=(ao 43)) l8 c8 k8,(aj (st:=(ao 43)) l8 c8 k8).binds (ps:=["_law_drawn","_law_family_here","_law_rooms","_law_cells_here","_law_whos","_law_roads_here"]) fun _ _ _ _ _ _ m l=>by obtain⟨_,_,_,_,_,_,rfl⟩:=HS l;rfl,fun _=>aG X G a8,fun h=>absurd h (by decide +kernel)⟩⟩
  rcases av.mp hd with hd | hd
  .subst hd;exact⟨_,_,⟨aj (st:=(ao 44)) l9 c9 k9,(aj (st:=(ao 44)) l9 c9 k9).binds (ps:=["_law_script","_law_k","_law_name_here","_law_crew","_law_wide","_law_roads_here"]) fun _ _ _ _ _ _ m l=>by obtain⟨_,_,_,_,_,_,rfl⟩:=HS l;rfl,fun _=>aG X G a9,fun h=>absurd h (by decide +kernel)⟩⟩
  rcases av.mp hd with hd | hd
  .subst hd;exact⟨_,_,⟨aj (st:=(ao 45)) l10 F k10,(aj (st:=(ao 45)) l10 F k10).binds (ps:=["_law_script","_law_most"]) fun _ _ _ _ _ _ m l=>by obtain⟨_,_,rfl⟩:=uM l;rfl,fun _=>aG X G a10,fun h=>absurd h (by decide +kernel)⟩⟩
  rcases av.mp hd with hd | hd
  .subst hd;exact⟨_,_,⟨aj (st:=(ao 8)) l11 P k11,(aj (st:=(ao 8)) l11 P k11).binds (ps:=["plan"]) fun _ _ _ _ _ _ m l=>by obtain⟨_,rfl⟩:=Gj l;rfl,fun _=>aG X G a11,fun h=>absurd h (by decide +kernel)⟩⟩
  rcases av.mp hd with hd | hd
  .subst hd;exact⟨_,_,⟨aj (st:=(ao 9)) l12 A k12,(aj (st:=(ao 9)) l12 A k12).binds (ps:=["plan"]) fun _ _ _ _ _ _ m l=>by obtain⟨_,rfl⟩:=Gj l;rfl,fun _=>aG X G a12,fun h=>absurd h (by decide +kernel)⟩⟩
  rcases av.mp hd with hd | hd
  .subst hd;exact⟨_,_,⟨aj (st:=(ao 10)) l13 B k13,(aj (st:=(ao 10)) l13 B k13).binds (ps:=["plan"]) fun _ _ _ _ _ _ m l=>by obtain⟨_,rfl⟩:=Gj l;rfl,fun _=>aG X G a13,fun h=>absurd h (by decide +kernel)⟩⟩
  rcases av.mp hd with hd | hd
  .subst hd;exact⟨_,_,⟨aj (st:=(ao 24)) l14 D k14,(aj (st:=(ao 24)) l14 D k14).binds (ps:=["road","word","letters"]) fun _ _ _ _ _ _ m l=>by obtain⟨_,_,_,rfl⟩:=y0 l;rfl,fun _=>aG X G a14,fun h=>absurd h (by decide +kernel)⟩⟩
  rcases av.mp hd with hd | hd
  .subst hd;exact⟨_,_,⟨aj (st:=(ao 16)) l15 E k15,(aj (st:=(ao 16)) l15 E k15).binds (ps:=["kind","letters"]) fun _ _ _ _ _ _ m l=>by obtain⟨_,_,rfl⟩:=uM l;rfl,fun _=>aG X G a15,fun h=>absurd h (by decide +kernel)⟩⟩
  rcases av.mp hd with hd | hd
  .subst hd;exact⟨_,_,⟨aj (st:=(ao 27)) l16 I k16,(aj (st:=(ao 27)) l16 I k16).binds (ps:=["row","place","thing"]) fun _ _ _ _ _ _ m l=>by obtain⟨_,_,_,rfl⟩:=y0 l;rfl,fun _=>aG X G a16,fun h=>absurd h (by decide +kernel)⟩⟩
  rcases av.mp hd with hd | hd
  .subst hd;exact⟨_,_,⟨aj (st:=(ao 26)) l17 J k17,(aj (st:=(ao 26)) l17 J k17).binds (ps:=["row","place"]) fun _ _ _ _ _ _ m l=>by obtain⟨_,_,rfl⟩:=uM l;rfl,fun _=>aG X G a17,fun h=>absurd h (by decide +kernel)⟩⟩
  rcases av.mp hd with hd | hd
  .subst hd;exact⟨_,_,⟨aj (st:=(ao 25)) l18 L k18,(aj (st:=(ao 25)) l18 L k18).binds (ps:=["word","letters","spot"]) fun _ _ _ _ _ _ m l=>by obtain⟨_,_,_,rfl⟩:=y0 l;rfl,fun _=>aG X G a18,fun h=>absurd h (by decide +kernel)⟩⟩
  rcases av.mp hd with hd | hd
  .subst hd;exact⟨_,_,⟨aj (st:=(ao 23)) l19 M k19,(aj (st:=(ao 23)) l19 M k19).binds (ps:=["board","standing","word"]) fun _ _ _ _ _ _ m l=>by obtain⟨_,_,_,rfl⟩:=y0 l;rfl,fun _=>aG X G a19,fun h=>absurd h (by decide +kernel)⟩⟩
  rcases av.mp hd with hd | hd
  .subst hd;exact⟨_,_,⟨aj (st:=(L2.cq (ao 7) 1)) l20 N g,(aj (st:=(L2.cq (ao 7) 1)) l20 N g).binds (ps:=["self","hand"]) fun _ _ _ _ _ _ m l=>by obtain⟨_,_,rfl⟩:=uM l;rfl,fun h=>absurd h (by decide +kernel),fun _=>⟨_,s,aG X G s,⟨b,n,a,k⟩,fun h=>absurd h (by decide +kernel),fun _=>⟨a20,w20,g⟩⟩⟩⟩
  rcases av.mp hd with hd | hd
  .subst hd;exact⟨_,_,⟨aj (st:=(ao 14)) l21 O k21,(aj (st:=(ao 14)) l21 O k21).binds (ps:=["family","cells"]) fun _ _ _ _ _ _ m l=>by obtain⟨_,_,rfl⟩:=uM l;rfl,fun _=>aG X G a21,fun h=>absurd h (by decide +kernel)⟩⟩
  rcases av.mp hd with hd | hd
  .subst hd;exact⟨_,_,⟨aj (st:=(ao 3)) l22 Q k22,(aj (st:=(ao 3)) l22 Q k22).binds (ps:=["word","one","other"]) fun _ _ _ _ _ _ m l=>by obtain⟨_,_,_,rfl⟩:=y0 l;rfl,fun _=>aG X G a22,fun h=>absurd h (by decide +kernel)⟩⟩
  rcases av.mp hd with hd | hd
  .subst hd;exact⟨_,_,⟨aj (st:=(ao 1)) l23 R k23,(aj (st:=(ao 1)) l23 R k23).binds (ps:=["tree","values"]) fun _ _ _ _ _ _ m l=>by obtain⟨_,_,rfl⟩:=uM l;rfl,fun _=>aG X G a23,fun h=>absurd h (by decide +kernel)⟩⟩
  rcases av.mp hd with hd | hd
  .subst hd;exact⟨_,_,⟨aj (st:=(ao 2)) l24 T k24,(aj (st:=(ao 2)) l24 T k24).binds (ps:=["condition","values"]) fun _ _ _ _ _ _ m l=>by obtain⟨_,_,rfl⟩:=uM l;rfl,fun _=>aG X G a24,fun h=>absurd h (by decide +kernel)⟩⟩
  rcases av.mp hd with hd | hd
  .subst hd;exact⟨_,_,⟨aj (st:=(L2.cq (ao 7) 2)) l25 U i,(aj (st:=(L2.cq (ao 7) 2)) l25 U i).binds (ps:=["self","hand","name"]) fun _ _ _ _ _ _ m l=>by obtain⟨_,_,_,rfl⟩:=y0 l;rfl,fun h=>absurd h (by decide +kernel),fun _=>⟨_,s,aG X G s,⟨b,n,a,k⟩,fun h=>absurd h (by decide +kernel),fun _=>⟨a25,w25,i⟩⟩⟩⟩
  rcases av.mp hd with hd | hd
  .subst hd;exact⟨_,_,⟨aj (st:=(ao 15)) l26 V k26,(aj (st:=(ao 15)) l26 V k26).binds (ps:=["board","roads","hand","take"]) fun _ _ _ _ _ _ m l=>by obtain⟨_,_,_,_,rfl⟩:=DG l;rfl,fun _=>aG X G a26,fun h=>absurd h (by decide +kernel)⟩⟩
  rcases av.mp hd with hd | hd
  .subst hd;exact⟨_,_,⟨aj (st:=(ao 18)) l27 W k27,(aj (st:=(ao 18)) l27 W k27).binds (ps:=["family","cells","step","values"]) fun _ _ _ _ _ _ m l=>by obtain⟨_,_,_,_,rfl⟩:=DG l;rfl,fun _=>aG X G a27,fun h=>absurd h (by decide +kernel)⟩⟩
  rcases av.mp hd with hd | hd
  .subst hd;exact⟨_,_,⟨aj (st:=(ao 19)) l28 Y k28,(aj (st:=(ao 19)) l28 Y k28).binds (ps:=["family","whos","take","letter"]) fun _ _ _ _ _ _ m l=>by obtain⟨_,_,_,_,rfl⟩:=DG l;rfl,fun _=>aG X G a28,fun h=>absurd h (by decide +kernel)⟩⟩
  rcases av.mp hd with hd | hd
  .subst hd;exact⟨_,_,⟨aj (st:=(ao 21)) l29 Z k29,(aj (st:=(ao 21)) l29 Z k29).binds (ps:=["board","hand","way","name","whos"]) fun _ _ _ _ _ _ m l=>by obtain⟨_,_,_,_,_,rfl⟩:=JH l;rfl,fun _=>aG X G a29,fun h=>absurd h (by decide +kernel)⟩⟩
  rcases av.mp hd with hd | hd
  .subst hd;exact⟨_,_,⟨aj (st:=(ao 22)) l30 c30 k30,(aj (st:=(ao 22)) l30 c30 k30).binds (ps:=["board","roads","hand","targets","letter"]) fun _ _ _ _ _ _ m l=>by obtain⟨_,_,_,_,_,rfl⟩:=JH l;rfl,fun _=>aG X G a30,fun h=>absurd h (by decide +kernel)⟩⟩
  rcases av.mp hd with hd | hd
  .subst hd;exact⟨_,_,⟨aj (st:=(ao 20)) l31 c31 k31,(aj (st:=(ao 20)) l31 c31 k31).binds (ps:=["board","hand","sends","values","roads","whos"]) fun _ _ _ _ _ _ m l=>by obtain⟨_,_,_,_,_,_,rfl⟩:=HS l;rfl,fun _=>aG X G a31,fun h=>absurd h (by decide +kernel)⟩⟩
  rcases av.mp hd with hd | hd
  .subst hd;exact⟨_,_,⟨aj (st:=(ao 17)) l32 c32 k32,(aj (st:=(ao 17)) l32 c32 k32).binds (ps:=["board","standing","hand","step","letter"]) fun _ _ _ _ _ _ m l=>by obtain⟨_,_,_,_,_,rfl⟩:=JH l;rfl,fun _=>aG X G a32,fun h=>absurd h (by decide +kernel)⟩⟩
  rcases av.mp hd with hd | hd
  .subst hd;exact⟨_,_,⟨aj (st:=(ao 13)) l33 c33 k33,(aj (st:=(ao 13)) l33 c33 k33).binds (ps:=["board","standing","hand"]) fun _ _ _ _ _ _ m l=>by obtain⟨_,_,_,rfl⟩:=y0 l;rfl,fun _=>aG X G a33,fun h=>absurd h (by decide +kernel)⟩⟩
  rcases av.mp hd with hd | hd
  .subst hd;exact⟨_,_,⟨aj (st:=(ao 12)) l34 c34 k34,(aj (st:=(ao 12)) l34 c34 k34).binds (ps:=["board","standing"]) fun _ _ _ _ _ _ m l=>by obtain⟨_,_,rfl⟩:=uM l;rfl,fun _=>aG X G a34,fun h=>absurd h (by decide +kernel)⟩⟩
  rcases av.mp hd with hd | hd
  .subst hd;exact⟨_,_,⟨aj (st:=(L2.cq (ao 7) 0)) l35 c35 k35,(aj (st:=(L2.cq (ao 7) 0)) l35 c35 k35).binds (ps:=["self","plan"]) fun _ _ _ _ _ _ m l=>by obtain⟨_,_,rfl⟩:=uM l;rfl,fun h=>absurd h (by decide +kernel),fun _=>⟨_,s,aG X G s,⟨b,n,a,k⟩,fun _=>⟨cf0,a35,w35,cg0⟩,fun h=>absurd rfl h⟩⟩⟩
  rcases av.mp hd with hd | hd
  .subst hd;exact⟨_,_,⟨aj (st:=(ao 11)) l36 c36 k36,(aj (st:=(ao 11)) l36 c36 k36).binds (ps:=["plan","standing"]) fun _ _ _ _ _ _ m l=>by obtain⟨_,_,rfl⟩:=uM l;rfl,fun _=>aG X G a36,fun h=>absurd h (by decide +kernel)⟩⟩
  rcases av.mp hd with hd | hd
  .subst hd;exact⟨_,_,⟨aj (st:=(ao 46)) l37 c37 k37,(aj (st:=(ao 46)) l37 c37 k37).binds (ps:=["_law_script","_law_plan_here","_law_first","_law_many"]) fun _ _ _ _ _ _ m l=>by obtain⟨_,_,_,_,rfl⟩:=DG l;rfl,fun _=>aG X G a37,fun h=>absurd h (by decide +kernel)⟩⟩
  rcases av.mp hd with hd | hd
  .subst hd;exact⟨_,_,⟨aj (st:=(ao 29)) l38 c38 k38,(aj (st:=(ao 29)) l38 c38 k38).binds (ps:=["plan"]) fun _ _ _ _ _ _ m l=>by obtain⟨_,rfl⟩:=Gj l;rfl,fun _=>aG X G a38,fun h=>absurd h (by decide +kernel)⟩⟩
  rcases av.mp hd with hd | hd
  .subst hd;exact⟨_,_,⟨aj (st:=(ao 30)) l39 c39 k39,(aj (st:=(ao 30)) l39 c39 k39).binds (ps:=["plan","wish","deed"]) fun _ _ _ _ _ _ m l=>by obtain⟨_,_,_,rfl⟩:=y0 l;rfl,fun _=>aG X G a39,fun h=>absurd h (by decide +kernel)⟩⟩
  rcases av.mp hd with hd | hd
  .subst hd;exact⟨_,_,⟨aj (st:=(ao 32)) l40 c40 k40,(aj (st:=(ao 32)) l40 c40 k40).binds (ps:=["board","plan","standing","wish"]) fun _ _ _ _ _ _ m l=>by obtain⟨_,_,_,_,rfl⟩:=DG l;rfl,fun _=>aG X G a40,fun h=>absurd h (by decide +kernel)⟩⟩
  rcases av.mp hd with hd | hd
  .subst hd;exact⟨_,_,⟨aj (st:=(ao 31)) l41 c41 k41,(aj (st:=(ao 31)) l41 c41 k41).binds (ps:=["plan","standing","wish"]) fun _ _ _ _ _ _ m l=>by obtain⟨_,_,_,rfl⟩:=y0 l;rfl,fun _=>aG X G a41,fun h=>absurd h (by decide +kernel)⟩⟩
  rcases av.mp hd with hd | hd
  .subst hd;exact⟨_,_,⟨aj (st:=(ao 47)) l42 c42 k42,(aj (st:=(ao 47)) l42 c42 k42).binds (ps:=["_law_plan_here","_law_wish","_law_standings","_law_row"]) fun _ _ _ _ _ _ m l=>by obtain⟨_,_,_,_,rfl⟩:=DG l;rfl,fun _=>aG X G a42,fun h=>absurd h (by decide +kernel)⟩⟩
  rcases av.mp hd with hd | hd
  .subst hd;exact⟨_,_,⟨aj (st:=(ao 33)) l43 c43 k43,(aj (st:=(ao 33)) l43 c43 k43).binds (ps:=["plan","wish","standings","row"]) fun _ _ _ _ _ _ m l=>by obtain⟨_,_,_,_,rfl⟩:=DG l;rfl,fun _=>aG X G a43,fun h=>absurd h (by decide +kernel)⟩⟩
  rcases av.mp hd with hd | hd
  .subst hd;exact⟨_,_,⟨aj (st:=(ao 48)) l44 c44 k44,(aj (st:=(ao 48)) l44 c44 k44).binds (ps:=["_law_script"]) fun _ _ _ _ _ _ m l=>by obtain⟨_,rfl⟩:=Gj l;rfl,fun _=>aG X G a44,fun h=>absurd h (by decide +kernel)⟩⟩
  cases hd
 .unfold Gv at r;by_cases e:x=("HIGHEST_LETTER":Str)
  .rw [if_pos e] at r;subst e;cases r;exact .plain ⟨_,.int 999,aG X G glb0,by first | exact rfl | exact⟨_,rfl⟩,fun _ _=>rfl⟩ rfl
  rw [if_neg e] at r;clear e;by_cases e:x=("NOBODY":Str)
  .rw [if_pos e] at r;subst e;cases r;exact .plain ⟨_,.int (-1),aG X G glb1,by first | exact rfl | exact⟨_,rfl⟩,fun _ _=>rfl⟩ rfl
  rw [if_neg e] at r;clear e;cases r
 .obtain⟨x,u,e⟩:=pM.mp hc;rw [Bool.and_eq_true] at e;have e1:=of_decide_eq_true e.1;have e2:f ∈ x.2:=by simpa using e.2
  subst e1;rcases av.mp u with u | u
  .subst u;simp only [av,ey,ee] at e2;rcases e2 with rfl | rfl | rfl | rfl | rfl
   .exact⟨_,s,⟨b,n,a,k⟩,j⟩
   .exact⟨_,s,⟨b,n,a,k⟩,y⟩
   .exact⟨_,s,⟨b,n,a,k⟩,o⟩
   .exact⟨_,s,⟨b,n,a,k⟩,H⟩
   .exact⟨_,s,⟨b,n,a,k⟩,S⟩
  cases u
theorem log2_small {i:Int} (h:i.natAbs < 2 ^ 60):i.natAbs.log2 < 60:=by
 by_cases e:i.natAbs=0
 .rw [e];decide
 .exact (Nat.log2_lt e).mpr h
theorem bz {i j:Int} (h:i.natAbs < 2 ^ 60) (x:j.natAbs < 2 ^ 60):eZ i j=true:=by unfold eZ;have a:=log2_small h;have b:=log2_small x;exact h_ (by lia)
theorem Dx:∀(n:Nat) (v:P),cc n v=true->cc (n+1) v=true:=by
 intro n;induction n with
 | zero=>intro v h;cases v <;> first | rfl | exact h | cases h
 | succ n i=>
  intro v h;cases v with
  | tup s=>exact bq.mpr fun x a=>i x (bq.mp h x a)
  | lst s=>exact bq.mpr fun x a=>i x (bq.mp h x a)
  | ro s=>exact bq.mpr fun x a=>i x (bq.mp h x a)
  | non=>rfl
  | bl _=>rfl
  | int _=>rfl
  | str _=>exact h
  | dct _ _=>cases h
theorem dU (h:cc n v=true) (m:n≤e):cc e v=true:=by
 obtain⟨k,rfl⟩:=Nat.exists_eq_add_of_le m;clear m;induction k with
 | zero=>exact h
 | succ k i=>exact Dx _ _ i
noncomputable def strOk (x:Str):Prop:=PyData.strOk x=true
@[simp] theorem HL (n:Nat) (i:Int):cc n (.int i)=true:=by cases n <;> rfl
@[simp] theorem JD (n:Nat) (i:Bool):cc n (.bl i)=true:=by cases n <;> rfl
@[simp] theorem HJ (n:Nat):cc n .non=true:=by cases n <;> rfl
@[simp] theorem HI (n:Nat) (x:Str):cc n (.str x)=PyData.strOk x:=by cases n <;> rfl
@[simp] theorem HH (n:Nat) (s:List P):cc (n+1) (.tup s)=s.all (cc n):=rfl
@[simp] theorem HK (n:Nat) (s:List P):cc (n+1) (.lst s)=s.all (cc n):=rfl
theorem HM (h:∀x ∈ s,cc n x=true):cc (n+1) (.lst s)=true:=bq.mpr h
@[simp] theorem vV (c:Nat):Str.length ⟨#[c]⟩=1:=rfl
variable {x:Str}
theorem wO (h:strOk x) (a:strOk y):strOk (x++y):=by show (x.cps++y.cps).all (fun c=>decide (c < 0x110000))=true;rw [Array.all_append,Bool.and_eq_true];exact⟨h,a⟩
theorem wN (e:strOk x) (n:Nat):strOk (dA x n):=by
 have k:∀(n:Nat) (a:Array Nat),a.all (fun c=>decide (c < 0x110000))=true->((List.replicate n x.cps).foldl (·++·) a).all (fun c=>decide (c < 0x110000))=true:=by
  intro n;induction n with
  | zero=>intro a h;exact h
  | succ n i=>intro a h;rw [di,gw];exact i _ (by rw [Array.all_append,Bool.and_eq_true];exact⟨h,e⟩)
 exact k n #[] (by simp)
variable {k:Int}
theorem zQ (f:strOk x) (a:0≤k) (s:k < x.length) (n:x.length≤1000000):∃c,strOk ⟨#[c]⟩/\ar (.str x) (.int k)=some (.str ⟨#[c]⟩):=by
 have l:k.toNat < x.cps.toList.length:=by simp only [kZ];unfold Str.length at s;lia
 have h:k.toNat < x.cps.size:=by simpa using l
 refine⟨x.cps.toList[k.toNat],?_,?_⟩
 .have:=Array.all_eq_true.mp f k.toNat h;show (#[x.cps.toList[k.toNat]].all fun c=>decide (c < 0x110000))=true;simpa using this
 .have e:L2.atI x.cps.toList k=some (x.cps.toList[k.toNat]):=be a (by simp [h]);show (if fS x.length=true then (L2.atI x.cps.toList k).map fun c=>P.str ⟨#[c]⟩ else none)=_;rw [if_pos (by simp only [kG];exact n),e];rfl
theorem xB (h:x.length+y.length≤1000000):rF (.str x) (.str y)=some (.str (x++y)):=by show (if fS (x.length+y.length)=true then some (P.str (x++y)) else none)=_;rw [if_pos (by rw [kG];exact h)]
variable {s:List a}
theorem dG (h:s≠[]) (a:Int):∃x ∈ s,L2.atI s (a % (s.length:Int))=some x:=by
 have l:(0:Int) < (s.length:Int):=by cases s with | nil=>exact absurd rfl h | cons _ _=>simp
 have e:=eL a (Int.ne_of_gt l);have n:=fO a l;have k:(a % (s.length:Int)).toNat < s.length:=by lia
 exact⟨s[(a % (s.length:Int)).toNat],dP _,be e (by simp [k])⟩
theorem ve (h:0≤k) (e:k < (s.length:Int)):∃x ∈ s,L2.atI s k=some x:=by
 have a:k.toNat < s.length:=by lia
 exact⟨s[k.toNat],dP _,be h (by simp [a])⟩
theorem atI_last (h:s≠[]):∃x ∈ s,L2.atI s (-1)=some x:=by
 have l:0 < s.length:=List.length_pos_iff.mpr h;refine⟨s[s.length-1],dP _,?_⟩;unfold L2.atI L2.xc;rw [if_neg (by lia),if_pos (by lia)];have e:(-1+(s.length:Int)).toNat=s.length-1:=by lia
 simp [e,l]
theorem cw {g:iK}{b:ES}{Inv:Nat->Lc->aF->Prop}:∀{s:List P}{k:Nat}{L:Lc}{S:aF},(∀i v L S,s[i]? = some v->Inv (k+i) L S->∃f L2 n,g v L=some f/\b f S=some (.nx,L2,n)/\Inv (k+i+1) L2 n)->Inv k L S ->
  ∃x a,br g b s L S=some (.nx,x,a)/\Inv (k+s.length) x a
 | [],k,L,S,_,h=>⟨L,S,rfl,h⟩
 | v::r,k,L,S,c,h=>by
  obtain⟨f,L2,n,m,t,d⟩:=c 0 v L S rfl h;obtain⟨x,a,p,u⟩:=cw (g:=g) (b:=b) (Inv:=Inv) (s:=r) (k:=k+1) (L:=L2) (S:=n) (fun i w L S e q=>by have:=c (i+1) w L S (by simpa using e) (by rw [show k+(i+1)=k+1+i by lia];exact q);rwa [show k+(i+1)+1=k+1+i+1 by lia] at this) d
  exact⟨x,a,by rw [cm m t];exact p,by rw [bt,show k+(r.length+1)=k+1+r.length by lia];exact u⟩
theorem hX {g:iK}{c:EB}{e:EV}{Inv:Lc->Prop}{Q:P->Prop}{S:aF}:∀{s:List P}{L:Lc},(∀v ∈ s,∀L,Inv L->∃x k,g v L=some x/\Inv x/\c x S=some (k,S)/\(k=true->∃y,e x S=some (y,S)/\Q y))->Inv L ->
  ∃a,bo g c e s L S=some (a,S)/\(∀y ∈ a,Q y)/\a.length≤s.length
 | [],L,_,h=>⟨[],rfl,fun _ z=>(by cases z),Nat.le_refl _⟩
 | v::r,L,t,h=>by
  obtain⟨x,k,n,i,f,d⟩:=t v List.mem_cons_self L h;obtain⟨a,b,m,j⟩:=hX (s:=r) (L:=x) (fun w hw=>t w (aZ _ hw)) i;cases k with
  | false=>exact⟨a,by simp [bo,n,f,b],m,by simp;lia⟩
  | true=>obtain⟨y,p,q⟩:=d rfl;exact⟨y::a,by simp [bo,n,f,b,p],fun z u=>(av.mp u).elim (fun e=>e ▸ q) (m z),by simp;lia⟩
theorem iB {g:iK}{e:EV}{Inv:Lc->Prop}{Q:P->Prop}{S:aF}:∀{s:List P}{L:Lc},(∀v ∈ s,∀L,Inv L->∃x y,g v L=some x/\Inv x/\e x S=some (y,S)/\Q y)->Inv L ->
  ∃a,bo g dZ e s L S=some (a,S)/\(∀y ∈ a,Q y)/\a.length=s.length
 | [],L,_,h=>⟨[],rfl,fun _ z=>(by cases z),rfl⟩
 | v::r,L,n,h=>by obtain⟨x,y,k,i,f,q⟩:=n v List.mem_cons_self L h;obtain⟨a,b,c,m⟩:=iB (s:=r) (L:=x) (fun w hw=>n w (aZ _ hw)) i;exact⟨y::a,by simp [bo,k,f,b],fun z t=>(av.mp t).elim (fun e=>e ▸ q) (c z),by simp [m]⟩
theorem df {g:iK}{c:EB}{e:EV}{Inv:Lc->Prop}{S:aF}{p:P->Bool}{f:P->P}:∀{s:List P}{L:Lc},(∀v ∈ s,∀L,Inv L->∃x,g v L=some x/\Inv x/\c x S=some (p v,S)/\(p v=true->e x S=some (f v,S)))->Inv L ->
  bo g c e s L S=some ((s.filter p).map f,S)
 | [],L,_,h=>rfl
 | v::r,L,m,h=>by
  obtain⟨x,n,i,a,t⟩:=m v List.mem_cons_self L h;have b:=df (s:=r) (L:=x) (fun w hw=>m w (aZ _ hw)) i;cases k:p v with
  | false=>rw [k] at a;simp [bo,n,a,b,k]
  | true=>rw [k] at a;simp [bo,n,a,b,k,t k]
theorem ints_get {lo:Int}{n i:Nat}{v:P} (h:(intsFrom lo n)[i]? = some v):v=.int (lo+i)/\i < n:=by
 unfold Ev.intsFrom at h;rw [List.getElem?_map] at h;cases e:(List.range n)[i]? with
 | none=>rw [e] at h;cases h
 | some j=>
  rw [e] at h;cases h;have:=List.getElem?_eq_some_iff.mp e
  obtain⟨x,a⟩:=this;simp at x a;subst a;exact⟨rfl,x⟩
theorem dC {lo:Int}{n:Nat}{v:P} (h:v ∈ intsFrom lo n):∃i:Nat,v=.int (lo+i)/\i < n:=by obtain⟨i,x,e⟩:=pT.mp h;exact⟨i,ints_get (by rw [cG x,e])⟩
theorem bc (lo:Int) (n:Nat):(intsFrom lo n).length=n:=by simp [Ev.intsFrom]
theorem yV (k n:Str->GF) (s:List P):∀(a:Int) (p t q:Option D),∃(r:Int) (e:Option D),br (ak 2) (gJ k n) s [qi a,p,t,q] []=some (.nx,[qi r,p,e,q],[]):=by
 induction s with
 | nil=>intro a p t q;exact⟨a,t,rfl⟩
 | cons x s i=>intro a p t q;obtain⟨r,e,h⟩:=i (a / 2147483648) p (qp x) q;exact⟨r,e,by simpa [br,gJ] using h⟩
theorem qB (i:2≤n) (a:Int) {p:Int} (s:0≤p) (k:p < 1000):∃r:Int,0≤r/\pureOf (Ph n "_law_mix") [.int a,.int p]=some (.int r):=by
 obtain⟨n,rfl⟩:=fM (n:=n) (by first | assumption | lia);by_cases h:(1000000000000:Int)≤a
 .obtain⟨r,j,e⟩:=yV (Ph (n+1)) (Ph n) (intsFrom 0 (p % 61).toNat) (a / 1000000000000-1) (qi p) none none;refine⟨r % 2147483648,eL _ (by decide),?_⟩;have c:(p % 61).natAbs < 1000000:=by lia
  rw [lT,ag];simp [jk,h,c,e]
 .have m:0≤p * p/\p * p≤1000000:=⟨Int.mul_nonneg s s,Int.le_trans (Int.mul_le_mul (Int.le_of_lt k) (Int.le_of_lt k) s (by decide)) (by decide)⟩;have v:eZ p p=true:=bz (by lia) (by lia);have d:eZ (p * p) 7919=true:=bz (by lia) (by decide);have w:eZ (a % 1000003+p * p * 7919+p) 48271=true:=bz (by lia) (by decide);generalize f:(a % 1000003+p * p * 7919+p) * 48271 % 2147483629=x;have t:0≤x/\x < 2147483629:=by subst f;exact⟨eL _ (by decide),fO _ (by decide)⟩
  have u:eZ x x=true:=bz (by lia) (by lia);generalize b:x * x % 2147483587=y;have q:0≤y/\y < 2147483587:=by subst b;exact⟨eL _ (by decide),fO _ (by decide)⟩
  have g:eZ y (y+2)=true:=bz (by lia) (by lia);refine⟨y * (y+2) % 2147483579 / 7,Int.ediv_nonneg (eL _ (by decide)) (by decide),?_⟩;rw [lT,ag];simp [jk,h,v,d,w,f,u,b,g]
noncomputable def iQ (n:List Int):P:=.ro (n.map .int)
theorem rG (f:2≤n) (s:List Int) (x:0≤k):∃r:Int,pureOf (Ph n "_law_cell_at") [iQ s,.int k]=some (.int r):=by
 obtain⟨n,rfl⟩:=fM (n:=n) (by first | assumption | lia);by_cases h:k < (s.length:Int)
 .have a:k.toNat < s.length:=by lia
  refine⟨s[k.toNat],?_⟩;have e:L2.atI (s.map P.int) k=some (.int s[k.toNat]):=be x (by simp [a]);rw [iL,ag];simp [fW,iQ,cd,cK,h,e]
 .refine⟨0,?_⟩;rw [iL,ag];simp [fW,iQ,cd,cK,h]
theorem iy {n:Nat} (h:2≤n) (s:List Int) {k p:Int} (a:0≤k) (f:0≤p) (b:p < 1000):∃c r:Int,0≤r/\pureOf (Ph n "_law_cell_at") [iQ s,.int k]=some (.int c)/\pureOf (Ph n "_law_mix") [.int c,.int p]=some (.int r):=by obtain⟨c,e⟩:=rG h s a;obtain⟨r,m,x⟩:=qB h c f b;exact⟨c,r,m,e,x⟩
theorem Dw:strOk "xyz":=by unfold strOk;decide +kernel
theorem vU:("xyz":Str).length=3:=by decide +kernel
theorem Hh:∀k:Nat,k < 16->ar (.str "abcdefghijklmnop") (.int (k:Int))=some (.str ⟨#[97+k]⟩):=by
 intro k h;have e:∀k:Nat,k < 16->L2.atI ((("abcdefghijklmnop":Str)).cps.toList) (k:Int)=some (97+k):=by decide +kernel
 show (if fS (("abcdefghijklmnop":Str)).length=true then (L2.atI ((("abcdefghijklmnop":Str)).cps.toList) (k:Int)).map fun c=>P.str ⟨#[c]⟩ else none)=_;rw [e k h,if_pos (by decide +kernel)];rfl
noncomputable def hd (x:Str):Option Nat:=x.cps[0]?
theorem C1 (c n:Nat) (x:Str):hd (dA ⟨#[c]⟩ (n+1)++x)=some c:=by
 have k:∀(n:Nat) (a:Array Nat),a[0]? = some c->((List.replicate n #[c]).foldl (·++·) a)[0]? = some c:=by
  intro n;induction n with
  | zero=>intro a h;exact h
  | succ n i=>intro a h;rw [di,gw];refine i _ ?_;have s:0 < a.size:=(Array.getElem?_eq_some_iff.mp h).1;rw [Array.getElem?_append_left s];exact h
 have h:=k n (#[]++#[c]) (by simp);have s:0 < ((List.replicate n #[c]).foldl (·++·) (#[]++#[c])).size:=(Array.getElem?_eq_some_iff.mp h).1;show (((List.replicate (n+1) #[c]).foldl (·++·) #[])++x.cps)[0]? = some c;rw [di,gw,Array.getElem?_append_left s];exact h
theorem mK {n:Nat} (v:3≤n) (s:List Int) {k:Nat} (r:k < 16):∃x:Str,strOk x/\hd x=some (97+k)/\pureOf (Ph n "_law_name") [iQ s,.int (k:Int)]=some (.str x):=by
 obtain⟨n,rfl⟩:=fM (n:=n) (by first | assumption | lia);obtain⟨c,a,q,e,b⟩:=iy (n:=n+1) (by lia) s (k:=1) (p:=(k:Int)) (by lia) (by lia) (by lia);have u:=Hh k r;obtain⟨d,h,f⟩:=zQ (k:=a / 4 % 3) Dw (by lia) (by rw [vU];lia) (by rw [vU];lia);have t:strOk ⟨#[97+k]⟩:=by show (#[97+k].all fun c=>decide (c < 0x110000))=true;simp;lia
 have m:rD (.str ⟨#[97+k]⟩) (.int (1+a % 4))=some (.str (dA ⟨#[97+k]⟩ ((a % 4).toNat+1))):=by show (if (fS ((1+a % 4).toNat * 1) && decide ((1+a % 4).natAbs < 1000000))=true then some (P.str (dA ⟨#[97+k]⟩ (1+a % 4).toNat)) else none)=_;rw [if_pos (by rw [Bool.and_eq_true,kG];exact⟨by lia,h_ (by lia)⟩),show (1+a % 4).toNat=(a % 4).toNat+1 by lia]
 have z:=xB (x:=dA ⟨#[97+k]⟩ ((a % 4).toNat+1)) (y:=⟨#[d]⟩) (by rw [jI,vV,vV];lia);refine⟨dA ⟨#[97+k]⟩ ((a % 4).toNat+1)++⟨#[d]⟩,wO (wN t _) h,C1 _ _ _,?_⟩;rw [qP,ag];simp [kM,e,b,u,f,m,z]
theorem JG (a:Int):∃r:Int,-1≤r/\r≤5/\L2.atI [P.int 0,.int 0,.int (-1),.int 5] (a % 4)=some (.int r):=by
 have h:a % 4=0\/a % 4=1\/a % 4=2\/a % 4=3:=by lia
 rcases h with h | h | h | h <;> rw [h] <;> simp
theorem GJ (a:Int):∃r:Int,0≤r/\r≤2/\L2.atI [P.int 1,.int 2,.int 0,.int 1] (a % 4)=some (.int r):=by
 have h:a % 4=0\/a % 4=1\/a % 4=2\/a % 4=3:=by lia
 rcases h with h | h | h | h <;> rw [h] <;> simp
noncomputable def nD (v:P):Prop:=∃x lo h a,strOk x/\-1≤lo/\lo≤a/\a≤h/\h≤7/\v=.tup [.str x,.int lo,.int h,.int a]
noncomputable def bj:P->Str
 | .tup (.str s::_)=>s
 | _=>""
noncomputable def wy (v:List P):Prop:=(∀c ∈ v,nD c)/\∀i c,v[i]? = some c->hd (bj c)=some (99+i)
@[simp] theorem sh (v:List P):toP 9 (.ref 0) [.lst (v.map .p)]=some (.lst v,[.fz (.lst v)]):=fY rfl
theorem cO (s:List P) (v:P):s.map D.p++[.p v]=(s++[v]).map .p:=by simp
theorem dH {Q:P->Prop}{s:List P}{v:P} (h:∀x ∈ s,Q x) (e:Q v):∀x ∈ s++[v],Q x:=fun x a=>(dh.mp a).elim (h x) fun a=>by rw [List.mem_singleton.mp a];exact e
theorem zy {Q:Nat->P->Prop}{s:List P}{v:P} (h:∀i x,s[i]? = some x->Q i x) (n:Q s.length v):∀i x,(s++[v])[i]? = some x->Q i x:=fun i x a=>by
 by_cases e:i < s.length
 .rw [List.getElem?_append_left e] at a;exact h i x a
 .rw [fQ (by lia)] at a;have:i-s.length=0:=by
   have:=(List.getElem?_eq_some_iff.mp a).1;simp at this;lia
  rw [this] at a;cases a;rw [show i=s.length by lia];exact n
theorem zR {n:Nat} (hn:4≤n) (t:List Int) {f m:Int} (h0:0≤f) (h1:0≤m) (h2:m≤3):∃r:List P,r.length≤m.toNat/\wy r/\pureOf (Ph n "_law_cells") [iQ t,.int f,.int m]=some (.lst r):=by
 obtain⟨n,rfl⟩:=fM (n:=n) (by first | assumption | lia);obtain⟨c,a,ha,G,I⟩:=iy (n:=n+1) (by lia) t (k:=2+f) (p:=1) (by lia) (by lia) (by lia);have hm:a % (m+1) < m+1:=fO _ (by lia);have T:0≤a % (m+1):=eL _ (by lia);let Inv:Nat->Lc->aF->Prop:=fun i L S=>∃(r:List P) (H F K A:Option D),r.length=i/\wy r/\L=[qp (iQ t),qi f,qi m,some (.ref 0),H,F,K,A]/\S=[.lst (r.map .p)]
 obtain⟨Z,S',e,r,H,F,K,A,j,o,rfl,rfl⟩:=cw (g:=ak 4) (b:=fu (Ph (n+1)) (Ph n)) (Inv:=Inv) (s:=Ev.intsFrom 0 (a % (m+1)).toNat) (k:=0)
  (L:=[qp (iQ t),qi f,qi m,some (.ref 0),none,none,none,none]) (S:=[.lst []]) (fun i v L S W O=>by
   obtain⟨rfl,hi⟩:=ints_get W;obtain⟨r,H,F,K,A,j,o,rfl,rfl⟩:=O;obtain⟨c2,d,hd,C,E⟩:=iy (n:=n+1) (by lia) t (k:=2+f) (p:=2+(i:Int)) (by lia) (by lia) (by lia);obtain⟨x,Y,y,N⟩:=mK (n:=n+1) (by lia) t (k:=2+i) (by lia);obtain⟨lo,l,R,J⟩:=JG d;obtain⟨u,V,B,M⟩:=GJ (d / 4);have z:0 < lo+u-lo+1:=by lia
   have Q:r.length≤1000000:=by lia
   generalize hw:d / 16 % (lo+u-lo+1)=w;have X:0≤w/\w < lo+u-lo+1:=by subst hw;exact⟨eL _ (by lia),fO _ z⟩
   refine⟨_,[qp (iQ t),qi f,qi m,some (.ref 0),qi (i:Int),qi d,qi lo,qi (lo+u)],[.lst ((r++[P.tup [.str x,.int lo,.int (lo+u),.int (lo+w)]]).map D.p)],rfl,?_,_,_,_,_,_,by simp;lia,⟨dH o.1 ⟨x,lo,lo+u,lo+w,Y,l,by lia,by lia,by lia,rfl⟩,zy o.2 ?_⟩,rfl,rfl⟩
   .rw [<- cO];have q:pureOf (Ph (n+1) "_law_name") [iQ t,.int (2+(i:Int))]=some (.str x):=by rw [<- N];rfl
    simp [fu,C,E,q,J,M,z,dt,Q,hw]
   .show My.hd x=_;rw [y,j];congr 1;lia) ⟨[],none,none,none,none,rfl,⟨fun _ h=>(by cases h),fun _ _ h=>(by cases h)⟩,rfl,rfl⟩
 refine⟨r,by rw [j,bc];lia,o,?_⟩;have U:(a % (m+1)).natAbs < 1000000:=by lia
 have z:0 < m+1:=by lia
 rw [oB,ag];simp [jR,G,I,U,z,e]
@[simp] theorem HA:PyData.strOk "number"=true/\PyData.strOk "name"=true/\PyData.strOk "plus"=true/\PyData.strOk "minus"=true/\PyData.strOk "times"=true/\PyData.strOk "true"=true/\PyData.strOk "not"=true/\PyData.strOk "or"=true/\PyData.strOk "and"=true/\PyData.strOk "is"=true/\PyData.strOk "="=true/\PyData.strOk "!="=true/\PyData.strOk "<"=true/\PyData.strOk "<="=true/\PyData.strOk ">"=true/\PyData.strOk ">="=true/\PyData.strOk "row"=true/\PyData.strOk "heap"=true/\PyData.strOk "ma"=true/\PyData.strOk "mb"=true/\PyData.strOk "who"=true/\PyData.strOk "all"=true/\PyData.strOk "any"=true/\PyData.strOk ""=true/\PyData.strOk "it"=true/\PyData.strOk "weak"=true/\PyData.strOk "strong"=true/\PyData.strOk "step"=true/\PyData.strOk "lose"=true/\PyData.strOk "double"=true:=by decide +kernel
noncomputable def ke (v:P):Prop:=∃s:Str,PyData.strOk s=true/\v=.str s
theorem ke.ok (h:ke v) (n:Nat):cc n v=true:=by obtain⟨s,h,rfl⟩:=h;simpa using h
theorem gC {s:List P} (h:∀x ∈ s,ke x) (n:Nat):cc (n+1) (.lst s)=true:=HM fun x a=>(h x a).ok n
theorem aV (h:s≠[]):s.isEmpty=false:=by cases s with | nil=>exact absurd rfl h | cons _ _=>rfl
theorem len_pos (h:s≠[]):0 < s.length:=List.length_pos_iff.mpr h
noncomputable abbrev lp (k:Int):P:=.tup [.str "number",.int k]
noncomputable abbrev mf (y:P):P:=.tup [.str "name",y]
noncomputable def sQ (N:List P) (v:P):Prop:=(∃k,v=lp k)\/∃y ∈ N,v=mf y\/(∃k,v=.tup [.str "plus",mf y,lp k])\/(∃k j:Int,0≤k/\k≤2/\v=.tup [.str "minus",.tup [.str "times",mf y,lp k],lp j])\/v=.tup [.str "minus",lp 1,mf y]
theorem uw {n:Nat} (m:2≤n) (d:Int) {s:List P} (c:∀x ∈ s,ke x):∃v,sQ s v/\pureOf (Ph n "_law_sum") [.int d,.lst s]=some v:=by
 obtain⟨n,rfl⟩:=fM (n:=n) (by first | assumption | lia);have e:=qL (gC c 19);by_cases k:s=[]
 .subst k;refine⟨lp (d / 5 % 3),.inl ⟨_,rfl⟩,?_⟩;rw [eG,ag];simp [dE,e]
 rw [aV k] at e;have l:=len_pos k;obtain⟨y,f,a⟩:=dG k (d / 5);have b:d % 5=0\/d % 5=1\/d % 5=2\/d % 5=3\/d % 5=4:=by lia
 rcases b with h | h | h | h | h
 .refine⟨lp (d / 5 % 3),.inl ⟨_,rfl⟩,?_⟩;rw [eG,ag];simp [dE,e,h]
 .refine⟨mf y,.inr ⟨y,f,.inl rfl⟩,?_⟩;rw [eG,ag];simp [dE,e,h,cd,cK,l,a]
 .refine⟨.tup [.str "plus",mf y,lp (d / 20 % 3)],.inr ⟨y,f,.inr (.inl ⟨_,rfl⟩)⟩,?_⟩;rw [eG,ag];simp [dE,e,h,cd,cK,l,a]
 .refine⟨.tup [.str "minus",.tup [.str "times",mf y,lp (d / 20 % 3)],lp (d / 60 % 2)],.inr ⟨y,f,.inr (.inr (.inl ⟨_,_,by lia,by lia,rfl⟩))⟩,?_⟩;rw [eG,ag];simp [dE,e,h,cd,cK,l,a]
 .refine⟨.tup [.str "minus",lp 1,mf y],.inr ⟨y,f,.inr (.inr (.inr rfl))⟩,?_⟩;rw [eG,ag];simp [dE,e,h,cd,cK,l,a]
noncomputable def kB (N:List P) (v:P):Prop:=∃w y s,y ∈ N/\sQ N s/\PyData.strOk w=true/\v=.tup [.str "is",.str w,mf y,s]
noncomputable def uR (N:List P) (v:P):Prop:=v=.tup [.str "true"]\/kB N v\/(∃p,kB N p/\v=.tup [.str "not",p])\/∃p z,kB N p/\z ∈ N/\v=.tup [.str "or",p,.tup [.str "and",.tup [.str "true"],.tup [.str "is",.str "=",lp 1,mf z]]]
theorem w6 (a:Int):∃w:Str,PyData.strOk w=true/\L2.atI [P.str "=",.str "!=",.str "<",.str "<=",.str ">",.str ">="] (a % 6)=some (.str w):=by obtain⟨w,hw,e⟩:=ve (s:=[P.str "=",.str "!=",.str "<",.str "<=",.str ">",.str ">="]) (k:=a % 6) (by lia) (by simp;lia);simp only [av,ey,ee] at hw;rcases hw with rfl | rfl | rfl | rfl | rfl | rfl <;> exact⟨_,by simp,e⟩
theorem BB {n:Nat} (j:3≤n) (d:Int) {s:List P} (m:∀x ∈ s,ke x):∃v,uR s v/\pureOf (Ph n "_law_condition") [.int d,.lst s]=some v:=by
 obtain⟨n,rfl⟩:=fM (n:=n) (by first | assumption | lia);have e:=qL (gC m 19);by_cases a:s=[]
 .subst a;refine⟨.tup [.str "true"],.inl rfl,?_⟩;rw [cB,ag];simp [bU,e]
 rw [aV a] at e;have l:=len_pos a;obtain⟨y,g,c⟩:=dG a (d / 30);obtain⟨z,i,r⟩:=ve (s:=s) (k:=0) (by lia) (by lia);obtain⟨w,hw,b⟩:=w6 (d / 5);obtain⟨v,u,f⟩:=uw (n:=n+1) (by lia) (d / 90) m;have p:kB s (.tup [.str "is",.str w,mf y,v]):=⟨w,y,v,g,u,hw,rfl⟩;by_cases t:d % 5 < 2
 .refine⟨.tup [.str "true"],.inl rfl,?_⟩;rw [cB,ag];simp [bU,e,t]
 have q:d % 5=2\/d % 5=3\/d % 5=4:=by lia
 rcases q with h | h | h
 .refine⟨_,.inr (.inr (.inl ⟨_,p,rfl⟩)),?_⟩;rw [cB,ag];simp [bU,e,h,cd,cK,l,c,b,f]
 .refine⟨_,.inr (.inr (.inr ⟨_,z,p,i,rfl⟩)),?_⟩;rw [cB,ag];simp [bU,e,h,cd,cK,l,c,r,b,f]
 .refine⟨_,.inr (.inl p),?_⟩;rw [cB,ag];simp [bU,e,h,cd,cK,l,c,b,f]
noncomputable def g6 (v:P):Prop:=∃(a b k:Str) (c:Int) (d e:Bool),PyData.strOk a=true/\PyData.strOk b=true/\(k="row"\/k="heap")/\1≤c/\c≤3/\v=.tup [.str a,.str b,.str k,.int c,.bl d,.bl e]
noncomputable def rA:P->Str
 | .tup (.str a::_)=>a
 | _=>""
noncomputable def rB:P->Str
 | .tup (_::.str b::_)=>b
 | _=>""
noncomputable def Ci (F:List P) (v:List P):Prop:=v.length≤8/\∀r ∈ v,g6 r/\.str (rA r) ∈ F/\.str (rB r) ∈ F
theorem B2 {a b:P} (d:Int):∃w,(w=a\/w=b)/\L2.atI [a,b] (d % 2)=some w:=by obtain⟨w,hw,e⟩:=ve (s:=[a,b]) (k:=d % 2) (by lia) (by simp;lia);exact⟨w,by simpa using hw,e⟩
theorem hU {s:List P}{i:Nat}{v:P} (h:(b_ 0 s)[i]? = some v):∃x,s[i]? = some x/\v=.tup [.int (i:Int),x]:=by obtain⟨x,a,e⟩:=lB h;exact⟨x,a,by rw [e];simp⟩
theorem bD {a:Type}{s:List a}{i:Nat}{x:a} (h:s[i]? = some x):i < s.length:=(List.getElem?_eq_some_iff.mp h).1
theorem yh {n:Nat} (hn:3≤n) (r:List Int) {s:List P} (W:∀x ∈ s,ke x) (hl:s.length≤4) {m:Int} (V:0 < m) (h3:m≤3):∃f:List P,Ci s f/\pureOf (Ph n "_law_roads") [iQ r,.lst s,.int m]=some (.lst f):=by
 obtain⟨n,rfl⟩:=fM (n:=n) (by first | assumption | lia);let I:Option D->Option D->Nat->Lc->aF->Prop:=fun k o _ L S=>∃(f:List P) (u z H q:Option D),Ci s f/\L=[qp (iQ r),ql s,qi m,some (.ref 0),k,o,u,z,H,q]/\S=[.lst (f.map .p)]
 let Inv:Nat->Lc->aF->Prop:=fun i L S=>∃k o,I k o i L S
 obtain⟨T,U,e,k0,X,f,u,z,H,q,t,rfl,rfl⟩:=cw (g:=bn [ak 4,ak 5]) (b:=fq (Ph (n+1)) (Ph n)) (Inv:=Inv) (s:=b_ 0 s) (k:=0)
  (L:=[qp (iQ r),ql s,qi m,some (.ref 0),none,none,none,none,none,none]) (S:=[.lst []]) (fun i v L S Q N=>by
   obtain⟨x,A,rfl⟩:=hU Q;have hi:=bD A;have B:=bY A;obtain⟨a,Y,rfl⟩:=W x B;obtain⟨_,_,f,u,z,H,q,t,rfl,rfl⟩:=N;obtain⟨T,U,e,O⟩:=cw (g:=bn [ak 6,ak 7]) (b:=cT (Ph (n+1)) (Ph n)) (Inv:=I (qi (i:Int)) (qs a)) (s:=b_ 0 s) (k:=0)
    (L:=[qp (iQ r),ql s,qi m,some (.ref 0),qi (i:Int),qs a,u,z,H,q]) (S:=[.lst (f.map .p)]) (fun j v L S Q N=>by
     obtain⟨y,C,rfl⟩:=hU Q;have hj:=bD C;have E:=bY C;obtain⟨b,Z,rfl⟩:=W y E;obtain⟨f,u,z,H,q,t,rfl,rfl⟩:=N;obtain⟨c,d,hd,J,M⟩:=iy (n:=n+1) (by lia) r (k:=4) (p:=30+4 * (i:Int)+(j:Int)) (by lia) (by lia) (by lia);have R:eZ 4 (i:Int)=true:=bz (by decide) (by lia);by_cases hg:0 < d % 4/\f.length < 8
     .obtain⟨w,hw,G⟩:∃w:Str,(w="row"\/w="heap")/\L2.atI [P.str "row",.str "heap"] (d / 4 % 2)=some (.str w):=by
       obtain⟨w,hw,G⟩:=B2 (a:=.str "row") (b:=.str "heap") (d / 4);rcases hw with rfl | rfl
       .exact⟨_,.inl rfl,G⟩
       .exact⟨_,.inr rfl,G⟩
      have K:f.length≤1000000:=by lia
      have c0:0≤d / 8 % m:=eL _ (by lia);have c1:d / 8 % m < m:=fO _ V;refine⟨_,[qp (iQ r),ql s,qi m,some (.ref 0),qi (i:Int),qs a,qi (j:Int),qs b,qi d,qs w],[.lst ((f++[P.tup [.str a,.str b,.str w,.int (1+d / 8 % m),.bl (decide (d / 24 % 3=1)),.bl (decide (d / 72 % 3=1))]]).map D.p)],rfl,?_,_,_,_,_,_,⟨by simp;lia,dH t.2 ⟨⟨a,b,w,_,_,_,Y,Z,hw,by lia,by lia,rfl⟩,B,E⟩⟩,rfl,rfl⟩;rw [<- cO];have l:(f.length:Int) < 8:=by lia
      simp [cT,J,M,R,hg.1,cd,l,G,V,dt,K]
     .refine⟨_,[qp (iQ r),ql s,qi m,some (.ref 0),qi (i:Int),qs a,qi (j:Int),qs b,qi d,q],[.lst (f.map D.p)],rfl,?_,f,_,_,_,_,t,rfl,rfl⟩;by_cases F:0 < d % 4
      .have l:¬(f.length:Int) < 8:=by lia
       simp [cT,J,M,R,F,cd,l]
      .simp [cT,J,M,R,F,cd]) ⟨f,u,z,H,q,t,rfl,rfl⟩
   exact⟨_,T,U,rfl,by simpa [fq] using e,_,_,O⟩) ⟨none,none,[],none,none,none,none,⟨by simp,fun _ h=>(by cases h)⟩,rfl,rfl⟩
 refine⟨f,t,?_⟩;rw [oA,ag];simp [jQ,e]
end My
namespace My
open PySem L2 Ev
variable {s:Str}{l:List P}
theorem uE (H:∀c ∈ l,g6 c) (L:Lc) (j k:Nat) (t:j < L.length) (h:k≠j) (z:L[k]? = some (qs s)) (S:aF) :
  ∃f,bo (ak j) (bV (aE eC (eV (ac ar (vv j) (vi 0))) (aa k))) (ac ar (vv j) (vi 1)) l L S=some (f,S)/\(∀y ∈ f,ke y/\∃r ∈ l,rA r=s/\y=.str (rB r))/\f.length≤l.length:=by
 refine hX (Inv:=fun m=>∃d,m=L.set j d) (fun v p m u=>?_) ⟨L[j],(ie t).symm⟩;obtain⟨d,rfl⟩:=u;obtain⟨a,b,n,c,x,e,F,i,o,_,_,rfl⟩:=H v p;have g:((L.set j d).set j (qp (.tup [.str a,.str b,.str n,.int c,.bl x,.bl e])))[j]? = some (qp (.tup [.str a,.str b,.str n,.int c,.bl x,.bl e])):=by rw [dN (by simpa using t)]
 have w:((L.set j d).set j (qp (.tup [.str a,.str b,.str n,.int c,.bl x,.bl e])))[k]? = some (qs s):=by rw [bx (Ne.symm h),bx (Ne.symm h)];exact z
 exact⟨_,decide (a=s),rfl,⟨_,List.set_set ..⟩,by simp [-List.set_set,g,w],fun q=>⟨.str b,by simp [-List.set_set,g],⟨b,i,rfl⟩,_,p,of_decide_eq_true q,rfl⟩⟩
theorem wR (H:∀c ∈ l,g6 c) (L:Lc) (j k:Nat) (t:j < L.length) (h:k≠j) (z:L[k]? = some (qs s)) (S:aF) :
  ∃f,bo (ak j) (bV (aE eC (eV (ac ar (vv j) (vi 1))) (aa k))) (ac ar (vv j) (vi 0)) l L S=some (f,S)/\(∀y ∈ f,ke y/\∃r ∈ l,rB r=s/\y=.str (rA r))/\f.length≤l.length:=by
 refine hX (Inv:=fun m=>∃d,m=L.set j d) (fun v p m u=>?_) ⟨L[j],(ie t).symm⟩;obtain⟨d,rfl⟩:=u;obtain⟨a,b,n,c,x,e,i,F,o,_,_,rfl⟩:=H v p;have g:((L.set j d).set j (qp (.tup [.str a,.str b,.str n,.int c,.bl x,.bl e])))[j]? = some (qp (.tup [.str a,.str b,.str n,.int c,.bl x,.bl e])):=by rw [dN (by simpa using t)]
 have w:((L.set j d).set j (qp (.tup [.str a,.str b,.str n,.int c,.bl x,.bl e])))[k]? = some (qs s):=by rw [bx (Ne.symm h),bx (Ne.symm h)];exact z
 exact⟨_,decide (b=s),rfl,⟨_,List.set_set ..⟩,by simp [-List.set_set,g,w],fun q=>⟨.str a,by simp [-List.set_set,g],⟨a,i,rfl⟩,_,p,of_decide_eq_true q,rfl⟩⟩
theorem sr (h:l.length≤8):l.length≤1000000:=by lia
theorem qr (d:Int):∃w:Str,(w=a\/w=b)/\L2.atI [P.str a,.str b] (d % 2)=some (.str w):=by
 obtain⟨w,hw,e⟩:=B2 (a:=.str a) (b:=.str b) d;rcases hw with rfl | rfl
 .exact⟨_,.inl rfl,e⟩
 .exact⟨_,.inr rfl,e⟩
noncomputable def nA (s:Str) (l u N:List P) (v:P):Prop:=∃(m:Str) (t:P) (w n:Str),PyData.strOk m=true/\PyData.strOk n=true/\sQ N t/\((w="who"/\P.str n ∈ u)\/((w="all"\/w="any")/\∃r ∈ l,rA r=s/\n=rB r))/\v=.tup [.str m,t,.str w,.str n]
variable {n:Nat}{u:List P}
theorem yc (hn:3≤n) (d:Int) (hnm:∀x ∈ nm,ke x) (hw:∀x ∈ u,ke x) (hr:∀c ∈ l,g6 c) (hrl:l.length≤8) {m:Int} (h1:0≤m) (h2:m≤3) :
  ∃t:List P,t.length≤3/\(∀c ∈ t,nA s l u nm c)/\pureOf (Ph n "_law_sends") [.int d,.str s,.lst nm,.lst u,.lst l,.int m]=some (.lst t):=by
 obtain⟨n,rfl⟩:=fM (n:=n) (by first | assumption | lia);have hm:d % (m+1) < m+1:=fO _ (by lia);have hm0:0≤d % (m+1):=eL _ (by lia);obtain⟨gs,eg,Y,hgl⟩:=uE (s:=s) hr [qi d,qs s,ql nm,ql u,ql l,qi m,none,none,none,none,none,none,none] 12 1 (by simp) (by lia) rfl [];have W:=kt (gC hw 19);have T:=kt (gC (fun x hx=>(Y x hx).1) 19);let F:Option D->Option D->Option D->Option D->Lc:=fun U V q j=>[qi d,qs s,ql nm,ql u,ql l,qi m,ql gs,some (.ref 0),U,V,q,j]
 let Inv:Nat->Lc->aF->Prop:=fun i L S=>∃(t:List P) (U V q j:Option D),t.length≤i/\(∀c ∈ t,nA s l u nm c)/\L=F U V q j/\S=[.lst (t.map .p)]
 obtain⟨L',S',e,t,U,V,q,j,hc,Z,rfl,rfl⟩:=cw (g:=ak 8) (b:=bG (Ph (n+1)) (Ph n)) (Inv:=Inv) (s:=Ev.intsFrom 0 (d % (m+1)).toNat) (k:=0)
  (L:=F none none none none) (S:=[.lst []]) (fun i v L S hv hI=>by
   obtain⟨rfl,hi⟩:=ints_get hv;obtain⟨t,U,V,q,j,hc,Z,rfl,rfl⟩:=hI;simp only [eK];obtain⟨dv,A,y⟩:∃z:Int,(0 < z/\z < 1152921504606846976)/\L2.atI [P.int 4,.int 1000,.int 100000] (i:Int)=some (.int z):=by
    have:i=0\/i=1\/i=2:=by lia
    rcases this with rfl | rfl | rfl
    .exact⟨4,by decide,by simp⟩
    .exact⟨1000,by decide,by simp⟩
    .exact⟨100000,by decide,by simp⟩
   generalize C:d / dv=o;obtain⟨tr,htr,K⟩:=uw (n:=n+1) (by lia) (o / 12 % 300) hnm;obtain⟨mk,hmk,H⟩:=qr (a:="ma") (b:="mb") o;have omk:PyData.strOk mk=true:=by rcases hmk with rfl | rfl <;> simp
   have B:t.length≤1000000:=by lia
   by_cases Q:u≠[]/\o / 2 % 3=1
   .obtain⟨w,E,ew⟩:=dG Q.1 (o / 50);obtain⟨w,N,rfl⟩:=hw w E;have hl:=len_pos Q.1;refine⟨_,F (qi (i:Int)) (qi o) (qp tr) (qs mk),[.lst ((t++[P.tup [.str mk,tr,.str "who",.str w]]).map D.p)],rfl,?_,_,_,_,_,_,by simp;lia,dH Z ⟨mk,tr,_,w,omk,N,htr,.inl ⟨rfl,E⟩,rfl⟩,rfl,rfl⟩;rw [<- cO];rw [aV Q.1] at W;simp [bG,F,y,A,C,K,H,W,Q.2,cd,cK,hl,ew,dt,B]
   .by_cases R:gs=[]
    .refine⟨_,F (qi (i:Int)) (qi o) (qp tr) (qs mk),[.lst (t.map D.p)],rfl,?_,t,_,_,_,_,by lia,Z,rfl,rfl⟩;rw [R] at T;by_cases p:u=[]
     .rw [p] at W;simp [bG,F,y,A,C,K,H,W,T,R,p]
     .rw [aV p] at W;have h3:¬o / 2 % 3=1:=fun z=>Q ⟨p,z⟩;simp [bG,F,y,A,C,K,H,W,T,R,h3]
    .obtain⟨w,E,ew⟩:=dG R (o / 3);obtain⟨⟨w,N,rfl⟩,r,hrm,hra,O⟩:=Y w E;have O:w=rB r:=by cases O;rfl
     have hl:=len_pos R;rw [aV R] at T;have X:∀G:Str,(G="all"\/G="any")->(∀L S,(ac ar (a_ (v2 (vt "all") (vt "any"))) (ac dq (ac bb (ac aP (vv 9) (vi 6)) (vi 2)) (ah bE (v1 (ac Ah (vv 8) (vi 1)))))) (F (qi (i:Int)) (qi o) L S) [.lst (t.map .p)]=some (.str G,[.lst (t.map .p)]))->∃L1 L2 S2,ak 8 (.int (i:Int)) (F U V q j)=some L1/\bG (Ph (n+1)) (Ph n) L1 [.lst (t.map .p)]=some (.nx,L2,S2)/\Inv (0+i+1) L2 S2:=fun G I f=>by
      have f:=f (qp tr) (qs mk);refine⟨_,F (qi (i:Int)) (qi o) (qp tr) (qs mk),[.lst ((t++[P.tup [.str mk,tr,.str G,.str w]]).map D.p)],rfl,?_,_,_,_,_,_,by simp;lia,dH Z ⟨mk,tr,G,w,omk,N,htr,.inr ⟨I,r,hrm,hra,O⟩,rfl⟩,rfl,rfl⟩;rw [<- cO];unfold bG;generalize (ac ar (a_ (v2 (vt "all") (vt "any"))) (ac dq (ac bb (ac aP (vv 9) (vi 6)) (vi 2)) (ah bE (v1 (ac Ah (vv 8) (vi 1))))))=fa at f ⊢;simp only [F] at f ⊢;by_cases p:u=[]
      .rw [p] at W f ⊢;simp [y,A,C,K,H,W,T,cd,cK,hl,ew,dt,B,f]
      .rw [aV p] at W;have h3:¬o / 2 % 3=1:=fun z=>Q ⟨p,z⟩;simp [y,A,C,K,H,W,T,h3,cd,cK,hl,ew,dt,B,f]
     by_cases hi2:i < 1
     .have M:(i:Int) < 1:=by lia
      obtain⟨G,I,f⟩:=qr (a:="all") (b:="any") (o / 6);have mo:eZ (o / 6 % 2) 1=true:=bz (by lia) (by decide);have J:i=0:=by lia
      exact X G I fun L S=>by simp [F,J,M,bE,iM,mo,f]
     .have M:¬(i:Int) < 1:=by lia
      have J:¬i=0:=by lia
      have mo:eZ (o / 6 % 2) 0=true:=bz (by lia) (by decide);exact X "all" (.inl rfl) fun L S=>by simp [F,hi2,M,J,bE,iM,mo]) ⟨[],none,none,none,none,by simp,fun _ h=>(by cases h),rfl,rfl⟩
 refine⟨t,by rw [bc] at hc;lia,Z,?_⟩;have hq:(d % (m+1)).natAbs < 1000000:=by lia
 have hz:0 < m+1:=by lia
 rw [oz,ag];simp [jP,aU,sr hrl,jC,eg,hq,hz];simp [F] at e;simp [e]
@[simp] theorem Gf (L:Lc) (S:aF):gN L S=some (none,S):=rfl
@[simp] theorem Ge (a:EV) (L:Lc) (S:aF):cy a L S=aH (a L S) fun v h=>match v with | .int i=>some (some i,h) | _=>none:=rfl
@[simp] theorem G5 (x:List P) (lo h:Option Int):zP (.lst x) lo h=some (.lst (cut x lo h)):=rfl
@[simp] theorem G4 (x:List P) (lo h:Option Int):zP (.tup x) lo h=some (.tup (cut x lo h)):=rfl
theorem gg:(∀x ∈ cut h lo i,x ∈ h)/\(cut h lo i).length≤h.length:=by
 unfold cut;refine⟨fun x a=>?_,?_⟩
 .first
   | exact pU (ua a)
   | exact ua (pU a)
 .simp only [ib,p9];lia
noncomputable def lu (s:Str) (l u:List P) (v:P):Prop:=v=.non\/∃m a i w,PyData.strOk m=true/\PyData.strOk a=true/\PyData.strOk i=true/\PyData.strOk w=true/\(∃r ∈ l,rB r=s/\a=rA r)/\(w=""\/P.str w ∈ u)/\v=.tup [.str m,.str a,.str i,.str w]
noncomputable def more:P->List P
 | .non=>[]
 | _=>[.str "it"]
theorem step_if (ψ ι:Str->GF) {d0:Int} (A:∀x ∈ m,ke x) (hw:∀x ∈ u,ke x) (hs:∀x ∈ j,ke x/\∃r ∈ l,rB r=s/\x=.str (rA r)) :
  ∃tk f Y Z,lu s l u tk/\(∀x ∈ f,ke x)/\f.length≤m.length /\
   aM ψ ι [ql (.int d0::ds),qs s,qp rooms,qp cells,ql u,ql l,ql m,ql j,qp .non,ql m,ql [],none,none,none,none,none,none,none] []
    = some (.nx,[ql (.int d0::ds),qs s,qp rooms,qp cells,ql u,ql l,ql m,ql j,qp tk,ql f,ql (more tk),Y,Z,none,none,none,none,none],[]):=by
 have S:=kt (gC (fun x K=>(hs x K).1) 19);have N:=kt (gC A 19);have W:=kt (gC hw 19);by_cases c:j≠[]/\d0 % 3=1
 .rw [aV c.1] at S;obtain⟨s1,Q,d⟩:=dG c.1 (d0 / 24);have n:=len_pos c.1;obtain⟨mk,J,k⟩:=qr (a:="ma") (b:="mb") (d0 / 12);obtain⟨⟨sn,V,rfl⟩,r,O,M,o⟩:=hs s1 Q;have o:sn=rA r:=by cases o;rfl
  have U:PyData.strOk mk=true:=by rcases J with rfl | rfl <;> simp
  have H:∃i f,PyData.strOk i=true/\(∀x ∈ f,ke x)/\f.length≤m.length/\((m≠[]/\d0 / 3 % 2=1/\L2.atI m (-1)=some (.str i)/\f=cut m none (some (-1)))\/((m=[]\/¬d0 / 3 % 2=1)/\i=""/\f=m)):=by
   by_cases v:m≠[]/\d0 / 3 % 2=1
   .obtain⟨x,K,G⟩:=atI_last v.1;obtain⟨x,X,rfl⟩:=A x K;exact⟨x,_,X,fun y hy=>A y (gg.1 y hy),gg.2,.inl ⟨v.1,v.2,G,rfl⟩⟩
   .refine⟨_,_,by simp,A,Nat.le_refl _,.inr ⟨?_,rfl,rfl⟩⟩;by_cases z:m=[]
    .exact .inl z
    .exact .inr fun q=>v ⟨z,q⟩
  have F:∃w,PyData.strOk w=true/\((u≠[]/\d0 / 6 % 2=1/\P.str w ∈ u/\L2.atI u (d0 / 200 % (u.length:Int))=some (.str w))\/((u=[]\/¬d0 / 6 % 2=1)/\w="")):=by
   by_cases v:u≠[]/\d0 / 6 % 2=1
   .obtain⟨x,K,G⟩:=dG v.1 (d0 / 200);obtain⟨x,X,rfl⟩:=hw x K;exact⟨x,X,.inl ⟨v.1,v.2,K,G⟩⟩
   .refine⟨_,by simp,.inr ⟨?_,rfl⟩⟩;by_cases z:u=[]
    .exact .inl z
    .exact .inr fun q=>v ⟨z,q⟩
  obtain⟨i,f,hi,hf,I,p1⟩:=H;obtain⟨w,B,E⟩:=F;refine⟨.tup [.str mk,.str sn,.str i,.str w],f,qs i,qs w,.inr ⟨mk,sn,i,w,U,V,hi,B,⟨r,O,M,o⟩,?_,rfl⟩,hf,I,?_⟩
  .rcases E with ⟨_,_,h,_⟩ | ⟨_,h⟩
   .exact .inr h
   .exact .inl h
  rcases p1 with ⟨g,R,T,rfl⟩ | ⟨g,rfl,rfl⟩
  .rw [aV g] at N;rcases E with ⟨e,C,_,D⟩ | ⟨e,rfl⟩
   .rw [aV e] at W;have t:=len_pos e;simp [aM,more,S,c.2,N,R,T,W,C,D,cd,cK,n,t,d,k]
   .rcases e with e | e
    .subst e;simp [aM,more,S,c.2,N,R,T,W,cd,cK,n,d,k]
    .cases p:u.isEmpty <;> (rw [p] at W;simp [aM,more,S,c.2,N,R,T,W,e,cd,cK,n,d,k])
  .rcases g with g | g
   .subst g;rcases E with ⟨e,C,_,D⟩ | ⟨e,rfl⟩
    .rw [aV e] at W;have t:=len_pos e;simp [aM,more,S,c.2,N,W,C,D,cd,cK,n,t,d,k]
    .rcases e with e | e
     .subst e;simp [aM,more,S,c.2,N,W,cd,cK,n,d,k]
     .cases p:u.isEmpty <;> (rw [p] at W;simp [aM,more,S,c.2,N,W,e,cd,cK,n,d,k])
   .cases L:f.isEmpty <;> rw [L] at N <;> (
    rcases E with ⟨e,C,_,D⟩ | ⟨e,rfl⟩
    .rw [aV e] at W;have t:=len_pos e;simp [aM,more,S,c.2,N,g,W,C,D,cd,cK,n,t,d,k]
    .rcases e with e | e
     .subst e;simp [aM,more,S,c.2,N,g,W,cd,cK,n,d,k]
     .cases p:u.isEmpty <;> (rw [p] at W;simp [aM,more,S,c.2,N,g,W,e,cd,cK,n,d,k]))
 .refine⟨.non,m,none,none,.inl rfl,A,Nat.le_refl _,?_⟩;by_cases z:j=[]
  .subst z;simp [aM,more,S]
  .have z2:¬d0 % 3=1:=fun q=>c ⟨z,q⟩;rw [aV z] at S;simp [aM,more,S,z2]
noncomputable def o7 (s:List P):List P:=s.map fun c=>.str (bj c)
theorem qy (e:∀c ∈ a,nD c):∀x ∈ o7 a,ke x:=fun x s=>by obtain⟨c,h,rfl⟩:=cu.mp s;obtain⟨x,_,_,_,o,_,_,_,_,rfl⟩:=e c h;exact⟨x,o,rfl⟩
theorem pk (m:∀c ∈ h,nD c) (L:Lc) (j:Nat) (n:j < L.length) (S:aF) :
  bo (ak j) dZ (ac ar (vv j) (vi 0)) h L S=some (o7 h,S):=by
 have:=df (g:=ak j) (c:=dZ) (e:=ac ar (vv j) (vi 0)) (S:=S) (p:=fun _=>true) (f:=fun c=>.str (bj c)) (s:=h) (L:=L) (Inv:=fun s=>∃d,s=L.set j d) (fun v r s b=>by
  obtain⟨d,rfl⟩:=b;obtain⟨x,lo,i,a,t,_,_,_,_,rfl⟩:=m v r;have k:((L.set j d).set j (qp (.tup [.str x,.int lo,.int i,.int a])))[j]? = some (qp (.tup [.str x,.int lo,.int i,.int a])):=by rw [dN (by simpa using n)]
  exact⟨_,rfl,⟨_,List.set_set ..⟩,rfl,fun _=>by simp [-List.set_set,k,bj]⟩) ⟨L[j],(ie n).symm⟩
 rw [this,List.filter_eq_self.mpr fun _ _=>rfl];rfl
noncomputable def B' (N:List P) (c:P):Prop:=∃x t,PyData.strOk x=true/\sQ N t/\c=.tup [.str x,t]
structure Stp (s:Str) (rooms cells whos rs:List P) (rm when tk:P) (chg sn:List P) (rm2:P):Prop where
 h1:rm ∈ rooms
 h2:rm2 ∈ rooms
 wh:uR (o7 cells) when
 htk:lu s rs whos tk
 cl:chg.length≤3
 ch:∀c ∈ chg,B' (o7 cells++more tk) c
 sl:sn.length≤3
 hsn:∀c ∈ sn,nA s rs whos (o7 cells++more tk) c
theorem qA (v:P):∀x ∈ more v,ke x:=fun x h=>by
 cases v with
 | non=>cases h
 | _=>exact⟨"it",by simp,by simpa [more] using h⟩
theorem yS (v:P):(more v).length≤1:=by cases v <;> simp [more]
theorem AC (hn:4≤n) (C K B w:Int) (hrm:∀x ∈ r,ke x) (A:r≠[]) (V:∀c ∈ e,nD c) (hcl:e.length≤3) (hw:∀x ∈ u,ke x) (hr:∀c ∈ l,g6 c) (J:l.length≤8) :
  ∃rm R o p Q N,Stp s r e u l rm R o p Q N/\pureOf (Ph n "_law_step") [.lst [.int C,.int K,.int B,.int w],.str s,.lst r,.lst e,.lst u,.lst l]=some (.tup [rm,R,o,.lst p,.lst Q,N]):=by
 obtain⟨n,rfl⟩:=fM (n:=n) (by first | assumption | lia);have e1:=pk V [ql [.int C,.int K,.int B,.int w],qs s,ql r,ql e,ql u,ql l,none,none,none,none,none,none,none,none,none,none,none,none,none] 18 (by simp) [];have d:=qy V;have hnl:(o7 e).length=e.length:=by simp [o7]
 generalize U:o7 e=f at e1 d hnl;obtain⟨snd,e2,hsn,_⟩:=wR (s:=s) hr [ql [.int C,.int K,.int B,.int w],qs s,ql r,ql e,ql u,ql l,ql f,none,none,none,none,none,none,none,none,none,none,none,none] 18 1 (by simp) (by lia) rfl [];obtain⟨o,fr,q11,q12,htk,Y,hfl,e3⟩:=step_if (Ph (n+1)) (Ph n) (d0:=C) (ds:=[.int K,.int B,.int w]) (rooms:=.lst r) (cells:=.lst e) d hw hsn;have Z:=yS o;have I:=qA o;generalize hM:more o=O at e3 Z I;have y:∀x ∈ f++O,ke x:=fun x hx=>(dh.mp hx).elim (d x) (I x)
 have j:f.length+O.length≤1000000:=by lia
 have W:e.length≤1000000:=by lia
 let F:Option D->Option D->Lc:=fun q t=>[ql [.int C,.int K,.int B,.int w],qs s,ql r,ql e,ql u,ql l,ql f,ql snd,qp o,ql fr,ql O,q11,q12,some (.ref 0),q,t,none,none]
 let Inv:Nat->Lc->aF->Prop:=fun i L S=>∃(H:List P) (q t:Option D),H.length≤i/\(∀c ∈ H,B' (f++O) c)/\L=F q t/\S=[.lst (H.map .p)]
 obtain⟨L',S',e4,p,q,t,E,X,rfl,rfl⟩:=cw (g:=bn [ak 14,ak 15]) (b:=d_ (Ph (n+1)) (Ph n)) (Inv:=Inv) (s:=b_ 0 fr) (k:=0) (L:=F none none) (S:=[.lst []]) (fun i v L S hv hI=>by
   obtain⟨x,M,rfl⟩:=hU hv;have hi:=bD M;obtain⟨x,ox,rfl⟩:=Y x (bY M);obtain⟨H,q,t,V,ho,rfl,rfl⟩:=hI;have G:H.length≤1000000:=by lia
   obtain⟨a,b,ha,hb,ea,eb⟩:∃a b:Int,(0 < a/\a < 1152921504606846976)/\(0 < b/\b < 1152921504606846976)/\L2.atI [P.int 1,.int 1000,.int 1000000] (i:Int)=some (.int a)/\L2.atI [P.int 2,.int 2000,.int 2000000] (i:Int)=some (.int b):=by
    have:i=0\/i=1\/i=2:=by lia
    rcases this with rfl | rfl | rfl
    .exact⟨1,2,by decide,by decide,by simp,by simp⟩
    .exact⟨1000,2000,by decide,by decide,by simp,by simp⟩
    .exact⟨1000000,2000000,by decide,by decide,by simp,by simp⟩
   by_cases h:K / a % 2=1
   .obtain⟨tr,htr,T⟩:=uw (n:=n+1) (by lia) (K / b % 300) y;refine⟨_,F (qi (i:Int)) (qs x),[.lst ((H++[P.tup [.str x,tr]]).map D.p)],rfl,?_,_,_,_,by simp;lia,dH ho ⟨x,tr,ox,htr,rfl⟩,rfl,rfl⟩;rw [<- cO];simp [d_,F,ea,eb,ha,hb,h,j,T,dt,G]
   .refine⟨_,F (qi (i:Int)) (qs x),[.lst (H.map D.p)],rfl,?_,H,_,_,by lia,ho,rfl,rfl⟩;simp [d_,F,ea,ha,h]) ⟨[],none,none,by simp,fun _ h=>(by cases h),rfl,rfl⟩
 rw [fj] at E;obtain⟨z,hz0,hz1,hz2⟩:∃z:Int,0≤z/\z≤1/\bE [.bl (decide (3 < (r.length:Int)))]=some (.int z):=by
  by_cases h:3 < (r.length:Int)
  .exact⟨1,by decide,by decide,by simp [h,bE,iM]⟩
  .exact⟨0,by decide,by decide,by simp [h,bE,iM]⟩
 obtain⟨Q,hsl,hsd,e5⟩:=yc (n:=n+1) (by lia) B (s:=s) y hw hr J (m:=2+z) (by lia) (by lia);obtain⟨R,hwh,e6⟩:=BB (n:=n+1) (by lia) (w % 27000) d;obtain⟨r1,hr1,e7⟩:=dG A (w / 27000);obtain⟨r2,hr2,e8⟩:=dG A (w / 216000);have hl:=len_pos A;refine⟨r1,R,o,p,Q,r2,⟨hr1,hr2,U ▸ hwh,htk,by lia,U ▸ hM ▸ X,hsl,U ▸ hM ▸ hsd⟩,?_⟩;rw [qN,ag];simp only [F] at e4;simp [kL,aU,W,sr J,jC,e1,e2,lI,e3,e4,j,cd,cK,hz2,e5,e6,hl,e7,e8,fY]
noncomputable def zg (s:Str) (r c u l:List P) (v:P):Prop:=∃x a w t h n m,PyData.strOk x=true/\Stp s r c u l a w t h n m/\v=.tup [.str x,a,w,t,.lst h,.lst n,m]
structure Fam (rs:List P) (nm:Str) (crew:Nat) (rooms cells whos steps:List P):Prop where
 hnm:PyData.strOk nm=true
 hcr:1≤crew/\crew≤4
 hro:∀x ∈ rooms,ke x
 r0:rooms≠[]
 hce:wy cells
 cl:cells.length≤3
 hwh:∀x ∈ whos,ke x
 wl:whos.length≤2
 s0:steps≠[]
 sl:steps.length≤8
 hst:∀x ∈ steps,zg nm rooms cells whos rs x
noncomputable def gF (l:List P) (v:P):Prop:=∃n e r c u s,Fam l n e r c u s/\v=.tup [.str n,.int (e:Int),.lst r,.lst c,.lst u,.lst s]
theorem nv (p:3≤n) (s:List Int) (j:Nat) (o:Nat) (L:Lc) (c:j < L.length) (r:L[0]? = some (qp (iQ s))) (h:0≠j) (l:o+m≤16) (S:aF) :
  ∃a,bo (ak j) dZ (ah (pureOf (Ph n "_law_name")) (v2 (vv 0) (ac aC (vi (o:Int)) (vv j)))) (Ev.intsFrom 0 m) L S=some (a,S)/\(∀y ∈ a,ke y)/\a.length=(Ev.intsFrom 0 m).length:=by
 refine iB (Inv:=fun f=>∃d,f=L.set j d) (fun v q f t=>?_) ⟨L[j],(ie c).symm⟩;obtain⟨d,rfl⟩:=t;obtain⟨i,rfl,u⟩:=dC q;obtain⟨x,w,_,e⟩:=mK p s (k:=o+i) (by lia);have e:pureOf (Ph n "_law_name") [iQ s,.int ((o:Int)+(i:Int))]=some (.str x):=by rw [<- e];rfl
 have g:((L.set j d).set j (qi (0+(i:Int))))[j]? = some (qi (0+(i:Int))):=by rw [dN (by simpa using c)]
 have b:((L.set j d).set j (qi (0+(i:Int))))[0]? = some (qp (iQ s)):=by rw [bx (Ne.symm h),bx (Ne.symm h)];exact r
 simp only [eK] at g b ⊢;exact⟨_,.str x,rfl,⟨_,List.set_set ..⟩,by simp [-List.set_set,g,b,e],x,w,rfl⟩
theorem D9 (A:2≤n) (s:List Int) (f:Int) (D:0≤f) (E:f < 900) (L:Lc) (P:L.length=14) (F:L[0]? = some (qp (iQ s))) (x:L[12]? = some (qi f)) (S:aF) :
  ∃l z o H:Int,bo (ak 13) dZ (ah (pureOf (Ph n "_law_mix")) (v2 (ah (pureOf (Ph n "_law_cell_at")) (v2 (vv 0) (ac aC (vi 5) (ac bb (ac aC (vv 12) (vv 13)) (vi 24))))) (ac aC (ac aC (vi 11) (vv 12)) (vv 13)))) (Ev.intsFrom 0 4) L S=some ([.int l,.int z,.int o,.int H],S):=by
 obtain⟨C,e,y,h⟩:=iB (Q:=fun v=>∃d:Int,v=.int d) (g:=ak 13) (e:=ah (pureOf (Ph n "_law_mix")) (v2 (ah (pureOf (Ph n "_law_cell_at")) (v2 (vv 0) (ac aC (vi 5) (ac bb (ac aC (vv 12) (vv 13)) (vi 24))))) (ac aC (ac aC (vi 11) (vv 12)) (vv 13)))) (S:=S) (s:=Ev.intsFrom 0 4) (Inv:=fun m=>∃d,m=L.set 13 d) (L:=L) (fun v B m K=>by
  obtain⟨d,rfl⟩:=K;obtain⟨i,rfl,G⟩:=dC B;obtain⟨c,r,I,t,q⟩:=iy A s (k:=5+(f+(0+(i:Int))) % 24) (p:=11+f+(0+(i:Int))) (by lia) (by lia) (by lia);have w:((L.set 13 d).set 13 (qi (0+(i:Int))))[13]? = some (qi (0+(i:Int))):=by rw [dN (by simp [P])]
  have u:((L.set 13 d).set 13 (qi (0+(i:Int))))[0]? = some (qp (iQ s)):=by rw [bx (by decide),bx (by decide)];exact F
  have j:((L.set 13 d).set 13 (qi (0+(i:Int))))[12]? = some (qi f):=by rw [bx (by decide),bx (by decide)];exact x
  simp only [eK] at w u j t q ⊢;exact⟨_,.int r,rfl,⟨_,List.set_set ..⟩,by simp [-List.set_set,w,u,j,t,q],r,rfl⟩) ⟨L[13]'(by lia),(ie (by lia)).symm⟩
 rw [bc] at h;match C,h with
 | [a,b,c,d],_=>obtain⟨a,rfl⟩:=y a (by simp);obtain⟨b,rfl⟩:=y b (by simp);obtain⟨c,rfl⟩:=y c (by simp);obtain⟨d,rfl⟩:=y d (by simp);exact⟨a,b,c,d,e⟩
theorem xo (hn:5≤n) (y:List Int) (k:Nat) (hk:k≤3) (hnm:PyData.strOk I=true) (w:Nat) (hcr:1≤w/\w≤4) (wide:Bool) (hr:∀c ∈ l,g6 c) (hrl:l.length≤8) :
  ∃v,gF l v/\(∃tl,v=.tup (.str I::.int (w:Int)::tl))/\pureOf (Ph n "_law_family") [iQ y,.int (k:Int),.str I,.int (w:Int),.bl wide,.lst l]=some v:=by
 obtain⟨n,rfl⟩:=fM (n:=n) (by first | assumption | lia);obtain⟨z,t,hz0,hz1,C,ht1,ez,et⟩:∃z t:Int,0≤z/\z≤1/\0 < t/\t≤8/\bE [.bl wide]=some (.int z)/\L2.atI [P.int 3,.int 8] z=some (.int t):=by
  cases wide
  .exact⟨0,3,by decide,by decide,by decide,by decide,by simp [bE,iM],by simp⟩
  .exact⟨1,8,by decide,by decide,by decide,by decide,by simp [bE,iM],by simp⟩
 obtain⟨e,hcl,hc,ec⟩:=zR (n:=n+1) (by lia) y (f:=(k:Int)) (m:=2+z) (by lia) (by lia) (by lia);obtain⟨X,e91⟩:=rG (n:=n+1) (by lia) y (k:=2+(k:Int)) (by lia);obtain⟨G,ha9,e92⟩:=qB (n:=n+1) (by lia) X (p:=9) (by lia) (by lia);obtain⟨K,ha8,Z⟩:=qB (n:=n+1) (by lia) X (p:=8) (by lia) (by lia);obtain⟨R,ha7,Y⟩:=qB (n:=n+1) (by lia) X (p:=7) (by lia) (by lia);have h9a:0≤G % t:=eL _ (by lia);have h9b:G % t < t:=fO _ C;have h7a:0≤R % t:=eL _ (by lia);have h7b:R % t < t:=fO _ C;have h8a:0≤K % (2+z):=eL _ (by lia);have h8b:K % (2+z) < 2+z:=fO _ (by lia);let A:List (Option D):=[qp (iQ y),qi (k:Int),qs I,qi (w:Int),qp (.bl wide),ql l]
 obtain⟨r,er,Q,o⟩:=nv (n:=n+1) (by lia) y 11 4 (A++[ql e,qi G,none,none,none,none,none]) (by simp [A]) rfl (by decide) (m:=(1+G % t).toNat) (by lia) [];obtain⟨u,ew,hw,hwl⟩:=nv (n:=n+1) (by lia) y 11 10 (A++[ql e,qi K,ql r,none,none,none,none]) (by simp [A]) rfl (by decide) (m:=(K % (2+z)).toNat) (by lia) [];rw [bc] at o hwl;have O:r≠[]:=fun q=>by rw [q] at o;simp at o;lia
 let F:Option D->Option D->Option D->Lc:=fun J a d=>A++[ql e,J,ql r,ql u,some (.ref 0),a,d]
 let Inv:Nat->Lc->aF->Prop:=fun i L S=>∃(E:List P) (J a d:Option D),E.length=i/\(∀c ∈ E,zg I r e u l c)/\L=F J a d/\S=[.lst (E.map .p)]
 obtain⟨L',S',e4,stp,J,a,d,B,hst,rfl,rfl⟩:=cw (g:=ak 11) (b:=eT (Ph (n+1)) (Ph n)) (Inv:=Inv) (s:=Ev.intsFrom 0 (1+R % t).toNat) (k:=0) (L:=F (qi K) none none) (S:=[.lst []]) (fun i v L S hv hI=>by
   obtain⟨rfl,hi⟩:=ints_get hv;obtain⟨E,J,a,d,hc1,ho,rfl,rfl⟩:=hI;simp only [eK];have m1:eZ 8 (k:Int)=true:=bz (by decide) (by lia);have m2:eZ 4 (8 * (k:Int)+(i:Int))=true:=bz (by decide) (by lia);obtain⟨d0,d1,d2,d3,ed⟩:=D9 (n:=n+1) (by lia) y (4 * (8 * (k:Int)+(i:Int))) (by lia) (by lia) (F J (qi (i:Int)) (qi (4 * (8 * (k:Int)+(i:Int))))++[none]) rfl rfl rfl [.lst (E.map .p)];obtain⟨x,hx,_,ex⟩:=mK (n:=n+1) (by lia) y (k:=8+i) (by lia);have ex:pureOf (Ph (n+1) "_law_name") [iQ y,.int (8+(i:Int))]=some (.str x):=by rw [<- ex];rfl
   obtain⟨T,W,V,j,U,H,hys,es⟩:=AC (n:=n+1) (by lia) d0 d1 d2 d3 (s:=I) Q O hc.1 (by lia) hw hr hrl;have N:E.length≤1000000:=by lia
   have M:aC (.tup [.str x]) (.tup [T,W,V,.lst j,.lst U,H])=some (.tup [.str x,T,W,V,.lst j,.lst U,H]):=rfl;refine⟨_,F (ql [.int d0,.int d1,.int d2,.int d3]) (qi (i:Int)) (qi (4 * (8 * (k:Int)+(i:Int)))),[.lst ((E++[P.tup [.str x,T,W,V,.lst j,.lst U,H]]).map D.p)],rfl,?_,_,_,_,_,by simp;lia,dH ho ⟨x,T,W,V,j,U,H,hx,hys,rfl⟩,rfl,rfl⟩;rw [<- cO];simp only [F,A,p6,gX] at ed;simp [eT,F,A,m1,m2,aU,bc,jC,ed,ex,es,M,dt,N]) ⟨[],_,none,none,rfl,fun _ h=>(by cases h),rfl,rfl⟩
 rw [bc] at B;refine⟨_,⟨I,w,r,e,u,stp,⟨hnm,hcr,Q,O,hc,by lia,hw,by lia,fun q=>by rw [q] at B;simp at B;lia,by lia,hst⟩,rfl⟩,⟨_,rfl⟩,?_⟩;have hz2:0 < 2+z:=by lia
 have q1:(1+G % t).natAbs < 1000000:=by lia
 have q2:(1+R % t).natAbs < 1000000:=by lia
 have q3:(K % (2+z)).natAbs < 1000000:=by lia
 have q4:(1+G % t).toNat≤1000000:=by lia
 have q5:(K % (2+z)).toNat≤1000000:=by lia
 rw [nM,ag];simp only [F,A,p6,gX] at e4 er ew;simp only [show ((4:Nat):Int)=4 from rfl] at er;simp only [show ((10:Nat):Int)=10 from rfl] at ew;simp [jn,ez,et,ec,e91,e92,Z,Y,C,hz2,q1,q2,q3,q4,q5,aU,bc,jC,er,ew,e4]
theorem sG (p:3≤n) (s:List Int) (j:Nat) (L:Lc) (b:j < L.length) (r:L[0]? = some (qp (iQ s))) (h:0≠j) (l:m≤16) (S:aF) :
  ∃a,bo (ak j) dZ (ah (pureOf (Ph n "_law_name")) (v2 (vv 0) (vv j))) (Ev.intsFrom 0 m) L S=some (a,S)/\(∀y ∈ a,ke y)/\a.length=(Ev.intsFrom 0 m).length:=by
 refine iB (Inv:=fun e=>∃d,e=L.set j d) (fun v q e t=>?_) ⟨L[j],(ie b).symm⟩;obtain⟨d,rfl⟩:=t;obtain⟨i,rfl,u⟩:=dC q;obtain⟨x,w,_,c⟩:=mK p s (k:=i) (by lia);have g:((L.set j d).set j (qi (0+(i:Int))))[j]? = some (qi (0+(i:Int))):=by rw [dN (by simpa using b)]
 have f:((L.set j d).set j (qi (0+(i:Int))))[0]? = some (qp (iQ s)):=by rw [bx (Ne.symm h),bx (Ne.symm h)];exact r
 simp only [eK] at g f ⊢;exact⟨_,.str x,rfl,⟨_,List.set_set ..⟩,by simp [-List.set_set,g,f,c],x,w,rfl⟩
noncomputable def g7:P->Nat
 | .tup (_::.int c::_)=>c.toNat
 | _=>0
noncomputable def ze (v:P):Prop:=∃(k f s:Str),(k="weak"\/k="strong")/\PyData.strOk f=true/\PyData.strOk s=true/\v=.tup [.str k,.str f,.str s]
structure Pln (fams roads wishes:List P):Prop where
 hf:∀f ∈ fams,gF roads f
 cr:∃c,(∀f ∈ fams,g7 f≤c)/\fams.length * c≤4
 f0:1≤fams.length/\fams.length≤4
 hr:∀r ∈ roads,g6 r
 ra:∀r ∈ roads,(∃f ∈ fams,bj f=rA r)/\∃f ∈ fams,bj f=rB r
 rl:roads.length≤8
 hw:∀w ∈ wishes,ze w
 wl:wishes.length≤6
theorem rN (f:h->a) (x:List h) (i:Int):L2.atI (x.map f) i=(L2.atI x i).map f:=by
 unfold L2.atI;rw [bu];cases L2.xc x.length i with
 | none=>rfl
 | some j=>simp
theorem AW (hn:6≤n) (U:List Int):∃l H y,Pln l H y/\pureOf (Ph n "_law_plan") [iQ U,.int 3]=some (.tup [.lst l,.lst H,.lst y]):=by
 obtain⟨n,rfl⟩:=fM (n:=n) (by first | assumption | lia);obtain⟨o,e0⟩:=rG (n:=n+1) (by lia) U (k:=0) (by lia);generalize hwd:decide (o / 64 % 8=1)=wide;obtain⟨z,t,hz0,hz1,Y,ht1,ez,et⟩:∃z t:Int,0≤z/\z≤1/\0 < t/\t≤4/\bE [.bl wide]=some (.int z)/\L2.atI [P.int 2,.int 4] z=some (.int t):=by
  cases wide
  .exact⟨0,2,by decide,by decide,by decide,by decide,by simp [bE,iM],by simp⟩
  .exact⟨1,4,by decide,by decide,by decide,by decide,by simp [bE,iM],by simp⟩
 have hm0:0≤o % t:=eL _ (by lia);have hm1:o % t < t:=fO _ Y;obtain⟨m,hm⟩:∃m:Nat,1+o % t=(m:Int):=⟨(1+o % t).toNat,by lia⟩;have hm2:1≤m/\m≤4:=by lia
 obtain⟨K,en,hnm,hnl⟩:=sG (n:=n+1) (by lia) U 8 [qp (iQ U),qi 3,qi o,qp (.bl wide),qi (m:Int),none,none,none,none,none,none,none,none,none] (by simp) rfl (by decide) (m:=m) (by lia) [];rw [bc] at hnl;obtain⟨H,⟨hrl,hr⟩,er⟩:=yh (n:=n+1) (by lia) U hnm (by lia) (m:=2+z) (by lia) (by lia);obtain⟨b,hb0,hb1,hbm,eb⟩:∃b:Int,0 < b/\b≤4/\m * b.toNat≤4/\L2.atI [P.int (3+z),.int 2,.int 1,.int 1] ((m:Int)-1)=some (.int b):=by
  have:m=1\/m=2\/m=3\/m=4:=by lia
  rcases this with rfl | rfl | rfl | rfl
  .exact⟨3+z,by lia,by lia,by lia,by simp⟩
  .exact⟨2,by decide,by decide,by decide,by simp⟩
  .exact⟨1,by decide,by decide,by decide,by simp⟩
  .exact⟨1,by decide,by decide,by decide,by simp⟩
 let F:Option D->Option D->Option D->Option D->Option D->Option D->Lc:=fun R V B q11 N O=>[qp (iQ U),qi 3,qi o,qp (.bl wide),qi (m:Int),ql K,ql H,some (.ref 0),R,V,B,q11,N,O]
 let Inv:Nat->Lc->aF->Prop:=fun i L S=>∃(I:List P) (R V B:Option D),I.length=i/\(∀c ∈ I,gF H c/\g7 c≤b.toNat)/\(∀j x,K[j]? = some x->j < i->∃f ∈ I,x=.str (bj f))/\L=F R V B none none none/\S=[.lst (I.map .p)]
 obtain⟨L',S',e1,l,R,V,B,hfl,X,hfn,rfl,rfl⟩:=cw (g:=bn [ak 8,ak 9]) (b:=fV (Ph (n+1)) (Ph n)) (Inv:=Inv) (s:=b_ 0 K) (k:=0) (L:=F none none none none none none) (S:=[.lst []]) (fun i v L S hv hI=>by
   obtain⟨x,Z,rfl⟩:=hU hv;have hi:=bD Z;obtain⟨nm,hnm1,rfl⟩:=hnm x (bY Z);obtain⟨I,R,V,B,hc,ho,hon,rfl,rfl⟩:=hI;obtain⟨a,ha,ea⟩:∃a:Int,(0 < a/\a < 1152921504606846976)/\L2.atI [P.int 4,.int 12,.int 16,.int 16] (i:Int)=some (.int a):=by
    have:i=0\/i=1\/i=2\/i=3:=by lia
    rcases this with rfl | rfl | rfl | rfl
    .exact⟨4,by decide,by simp⟩
    .exact⟨12,by decide,by simp⟩
    .exact⟨16,by decide,by simp⟩
    .exact⟨16,by decide,by simp⟩
   have hb2:0≤o / a % b:=eL _ (by lia);have hb3:o / a % b < b:=fO _ hb0;obtain⟨cr,hcr⟩:∃cr:Nat,1+o / a % b=(cr:Int):=⟨(1+o / a % b).toNat,by lia⟩;obtain⟨v,hv2,⟨tl,hv3⟩,ev⟩:=xo (n:=n+1) (by lia) U i (by lia) hnm1 cr (by lia) wide (fun r h=>(hr r h).1) hrl;have M:I.length≤1000000:=by lia
   refine⟨_,F (qi (i:Int)) (qs nm) (qi (cr:Int)) none none none,[.lst ((I++[v]).map D.p)],rfl,?_,_,_,_,_,by simp;lia,dH ho ⟨hv2,?_⟩,fun j x hj hji=>?_,rfl,rfl⟩
   .rw [<- cO];simp [fV,F,ea,ha,ez,eb,hb0,hcr,ev,dt,M]
   .rw [hv3];simp [g7];lia
   .by_cases hjj:j < i
    .obtain⟨f,W,e⟩:=hon j x hj (by lia);exact⟨f,k_ _ W,e⟩
    .have:j=i:=by lia
     subst this;rw [Z] at hj;cases hj;exact⟨v,by simp,by rw [hv3];rfl⟩) ⟨[],none,none,none,rfl,fun _ h=>(by cases h),fun _ _ _ h=>(by lia),rfl,rfl⟩
 have Q:l.length=m:=by rw [hfl,fj,hnl];lia
 have hf0:l≠[]:=fun q=>by rw [q] at Q;simp at Q;lia
 have T:∀x ∈ K,∃f ∈ l,x=.str (bj f):=fun x hx=>by obtain⟨j,hj,e⟩:=pT.mp hx;exact hfn j x (by rw [cG hj,e]) (by rw [fj];lia)
 let Inv3:Nat->Lc->aF->Prop:=fun i L S=>∃(I:List P) (R N O:Option D),I.length=i/\(∀c ∈ I,ze c)/\L=F R V B (some (.ref 1)) N O/\S=[.lst (l.map .p),.lst (I.map .p)]
 obtain⟨w,hw0,hw1,ew⟩:∃w:Int,0≤w/\w≤1/\bE [.bl (wide && decide (o % 3=1))]=some (.int w):=by
  cases (wide && decide (o % 3=1))
  .exact⟨0,by decide,by decide,rfl⟩
  .exact⟨1,by decide,by decide,rfl⟩
 obtain⟨L',S',e2,y,q8',N,O,hwl,hwi,rfl,rfl⟩:=cw (g:=ak 8) (b:=fU (Ph (n+1)) (Ph n)) (Inv:=Inv3) (s:=Ev.intsFrom 0 (o / 48 % 3+4 * w).toNat) (k:=0) (L:=F R V B (some (.ref 1)) none none) (S:=[.lst (l.map .p),.lst []]) (fun i v L S hv hI=>by
   obtain⟨rfl,hi⟩:=ints_get hv;obtain⟨I,R,N,O,hc,ho,rfl,rfl⟩:=hI;simp only [eK];obtain⟨c,d,hd,e3,e4⟩:=iy (n:=n+1) (by lia) U (k:=4) (p:=20+(i:Int)) (by lia) (by lia) (by lia);obtain⟨f,W,ef⟩:=dG hf0 d;rw [Q] at ef;obtain⟨nm,J,E,C,u,A,G,rfl⟩:=(X f W).1;obtain⟨s,hs,es⟩:=dG G.s0 (d / 8);have hls:=len_pos G.s0;obtain⟨x,rm,wh,tk,chg,sn,rm2,hx,hys,rfl⟩:=G.hst s hs;obtain⟨mk,hmk,emk⟩:=qr (a:="weak") (b:="strong") (d / 4);have M:I.length≤1000000:=by lia
   have ef2:L2.atI (l.map D.p) (d % (m:Int))=qp (.tup [.str nm,.int (J:Int),.lst E,.lst C,.lst u,.lst A]):=by rw [rN,ef];rfl
   have hmp:(0:Int) < (m:Int):=by lia
   have hmp2:0 < m:=by lia
   refine⟨_,F (qi (i:Int)) V B (some (.ref 1)) (qi d) (qp (.tup [.str nm,.int (J:Int),.lst E,.lst C,.lst u,.lst A])),[.lst (l.map .p),.lst ((I++[P.tup [.str mk,.str nm,.str x]]).map D.p)],rfl,?_,_,_,_,_,by simp;lia,dH ho ⟨mk,nm,x,hmk,G.hnm,hx,rfl⟩,rfl,rfl⟩;rw [<- cO];have e5:L2.atI [P.str nm,.int (J:Int),.lst E,.lst C,.lst u,.lst A] 5=some (.lst A):=be (by decide) rfl;simp [fU,F,e3,e4,hmp,hmp2,ef2,e5,emk,cd,cK,hls,es,dt,M]) ⟨[],_,none,none,rfl,fun _ h=>(by cases h),rfl,rfl⟩
 rw [bc] at hwl;refine⟨l,H,y,⟨fun f h=>(X f h).1,⟨b.toNat,fun f h=>(X f h).2,by rw [Q];exact hbm⟩,by lia,fun r h=>(hr r h).1,fun r h=>⟨?_,?_⟩,hrl,hwi,by lia⟩,?_⟩
 .obtain⟨f,W,e⟩:=T _ (hr r h).2.1;exact⟨f,W,(P.str.inj e).symm⟩
 .obtain⟨f,W,e⟩:=T _ (hr r h).2.2;exact⟨f,W,(P.str.inj e).symm⟩
 have q1:(o / 48 % 3+4 * w).natAbs < 1000000:=by lia
 have q2:eZ 4 w=true:=bz (by decide) (by lia);have q3:m < 1000000:=by lia
 have q4:m≤1000000:=by lia
 have t0:toP 9 (.ref 0) [.lst (l.map .p),.lst (y.map .p)]=some (.lst l,[.fz (.lst l),.lst (y.map .p)]):=fY rfl;have t1:toP 9 (.ref 1) [.fz (.lst l),.lst (y.map .p)]=some (.lst y,[.fz (.lst l),.fz (.lst y)]):=fY rfl;rw [qO,ag];simp only [F] at e1 e2;cases wide
 .simp only [Bool.false_and] at ew;have hzw:z=w:=by rw [ez] at ew;cases ew;rfl
  subst hzw;simp [iC,e0,hwd,ez,et,Y,hm,q1,q2,q3,q4,aU,bc,jC,en,er,e1,ew,e2,t0,t1]
 .simp only [Bool.true_and] at ew;simp [iC,e0,hwd,ez,et,Y,hm,q1,q2,q3,q4,aU,bc,jC,en,er,e1,ew,e2,t0,t1]
end My
namespace My
open PySem L2 Ev
section
variable {t:List P}
noncomputable def hw:Nat->List P->List (Nat×P)
 | _,[]=>[]
 | k,f::r=>List.replicate (g7 f) (k,f)++hw (k+1) r
theorem gF.crew (h:gF t f):g7 f≤4:=by obtain⟨n,c,r,a,w,s,x,rfl⟩:=h;simpa [g7] using x.hcr.2
theorem zt:∀{a:List P} (k:Nat),(∀f ∈ a,gF t f)->(hw k a).length≤4 * a.length
 | [],k,_=>by simp [hw]
 | f::r,k,h=>by have:=zt (a:=r) (k+1) fun x e=>h x (aZ _ e);have c:=(h f List.mem_cons_self).crew;simp [hw];lia
theorem lw:∀{a:List P}{k:Nat}{x:Nat×P},x ∈ hw k a->∃j,x.1=k+j/\a[j]? = some x.2
 | [],k,x,h=>by simp [hw] at h
 | f::r,k,x,h=>by
  unfold hw at h;rcases dh.mp h with h | h
  .obtain⟨_,rfl⟩:=pS.mp h;exact⟨0,by simp,by simp⟩
  .obtain⟨j,s,e⟩:=lw h;exact⟨j+1,by lia,by simpa using e⟩
noncomputable def homes (f:List P):List P:=(hw 0 f).map fun x=>.int (x.1:Int)
noncomputable def bf (f:List P):List P:=(hw 0 f).map (·.2)
theorem iH (S:aF) (x:SO):(S++[x])[S.length]? = some x:=by simp
theorem hY (k:Nat):((k+1:Nat):Int)=(k:Int)+1:=by lia
theorem wc (z y:Str->GF) (S:aF) (l:P):∀(m:List P) (k:Nat) (n:List P) (g i:Option D),(∀f ∈ m,gF t f)->n.length+4 * m.length≤1000 ->
  ∃q v,br (bn [ak 2,ak 3]) (eE z y) (b_ (k:Int) m) [qp l,some (.ref S.length),g,i] (S++[.lst (n.map .p)])=some (.nx,[qp l,some (.ref S.length),q,v],S++[.lst ((n++(hw k m).map fun x=>P.int (x.1:Int)).map .p)])
 | [],k,n,g,i,_,_=>⟨g,i,by simp [b_,br,hw]⟩
 | f::r,k,n,g,i,h,F=>by
  obtain⟨u,c,o,a,w,s,H,rfl⟩:=h f List.mem_cons_self;have A:=H.hcr.2;simp only [bt] at F;obtain⟨q,v,e⟩:=wc z y S l r (k+1) (n++List.replicate c (P.int (k:Int))) (qi (k:Int)) (qp (.tup [.str u,.int (c:Int),.lst o,.lst a,.lst w,.lst s])) (fun x K=>h x (aZ _ K)) (by simp;lia);refine⟨q,v,?_⟩;have j:(hw k (.tup [.str u,.int (c:Int),.lst o,.lst a,.lst w,.lst s]::r)).map (fun x=>P.int (x.1:Int))=List.replicate c (P.int (k:Int))++(hw (k+1) r).map (fun x=>P.int (x.1:Int)):=by simp [hw,g7]
  rw [j,<- List.append_assoc];unfold b_;rw [hY] at e;refine (cm (L1:=[qp l,some (.ref S.length),qi (k:Int),qp (.tup [.str u,.int (c:Int),.lst o,.lst a,.lst w,.lst s])]) (L2:=[qp l,some (.ref S.length),qi (k:Int),qp (.tup [.str u,.int (c:Int),.lst o,.lst a,.lst w,.lst s])]) (t:=S++[.lst ((n++List.replicate c (P.int (k:Int))).map .p)]) rfl ?_).trans e;have d:c≤1000000:=by lia
  have p:c < 1000000:=by lia
  have b:n.length+c≤1000000:=by lia
  simp [eE,dt,d,p,b]
theorem Cd (a:2≤n) (h:∀f ∈ s,gF t f) (l:s.length≤4) (r w:P) (S:aF):Ph n "families_of" [.p (.tup [.lst s,r,w])] S=some (.ref S.length,S++[.lst ((homes s).map .p)]):=by obtain⟨n,rfl⟩:=fM (n:=n) (by first | assumption | lia);obtain⟨q,k,e⟩:=wc (Ph (n+1)) (Ph n) S (.tup [.lst s,r,w]) s 0 [] none none h (by simp;lia);rw [mi];simp only [gX,List.map_nil] at e;have x:=e;rw [show ((0:Nat):Int)=0 from rfl] at x;simp [cI,iO,x,homes]
theorem qK (x:2≤n) (h:∀f ∈ s,gF t f) (l:s.length≤4) (r w:P):pureOf (Ph n "families_of") [.tup [.lst s,r,w]]=some (.lst (homes s)):=by unfold pureOf;rw [List.map_cons,List.map_nil,Cd x h l r w []];simp
noncomputable def aN (f:List P):LS:=(bf f).map bj
theorem jc (h:∀f ∈ s,gF t f) (a:f ∈ bf s):gF t f:=by unfold bf at a;obtain⟨x,n,rfl⟩:=cu.mp a;obtain⟨j,_,e⟩:=lw n;exact h _ (bY e)
noncomputable def eI (N:LS) (s:Str):List Nat:=(List.range N.length).filter fun i=>decide (N[i]? = some s)
theorem wd:∀(xs:List P) (k:Nat),b_ (k:Int) xs=(List.range' k xs.length).map fun i=>.tup [.int (i:Int),(xs[i-k]?).getD .non]
 | [],k=>rfl
 | x::r,k=>by
  unfold b_;have h:=wd r (k+1);rw [hY] at h;rw [h,bt,p_,List.map_cons];simp only [Nat.sub_self];congr 1;refine List.map_congr_left fun i a=>?_
  have:=(List.mem_range'_1.mp a).1;rw [show i-k=(i-(k+1))+1 by lia,List.getElem?_cons_succ]
theorem GX (xs:List P):b_ 0 xs=(List.range xs.length).map fun i=>.tup [.int (i:Int),(xs[i]?).getD .non]:=by have:=wd xs 0;rw [List.range_eq_range'];simpa using this
noncomputable def pr (road:P) (n o:Nat):P:=.tup [road,.int (n:Int),.int (o:Int)]
noncomputable def yq (N:LS) (road:P):List P:=(eI N (rA road)).flatMap fun n=>((eI N (rB road)).filter fun o=>!decide (n=o)).map fun o=>pr road n o
noncomputable def bF (N:LS) (r:List P):List P:=r.flatMap (yq N)
noncomputable def du (s:List Nat):List P:=s.map fun (i:Nat)=>P.int (i:Int)
theorem gu (N:LS) (s:Str):(eI N s).length≤N.length:=by unfold eI;exact aQ (j0 _ _) (by simp)
theorem vF (n:Nat) (road:P) (os:List Nat):((os.filter fun o=>!decide (n=o)).map fun o=>pr road n o).length≤os.length:=by rw [bu];exact j0 _ _
theorem vN (N:LS) (road:P) (os:List Nat) (h:os.length≤16):∀(s:List Nat),(s.flatMap fun n=>(os.filter fun o=>!decide (n=o)).map fun o=>pr road n o).length≤16 * s.length
 | []=>by simp
 | i::s=>by
  have:=vN N road os h s;have:=vF i road os
  simp only [mS,cV,bt];lia
theorem v9:∀{a:List P} (k:Nat),(∀f ∈ a,g7 f≤e)->(hw k a).length≤a.length * e
 | [],k,_=>by simp [hw]
 | f::r,k,h=>by have:=v9 (a:=r) (k+1) fun x s=>h x (aZ _ s);have c:=h f List.mem_cons_self;simp [hw,Nat.add_mul];lia
theorem gn (h:Pln f e s):(bf f).length≤4:=by
 obtain⟨c,x,a⟩:=h.cr;have:=v9 0 x
 unfold bf;simp;lia
theorem lx (h:Pln f e s):(aN f).length≤4:=by unfold aN;rw [bu];exact gn h
end
section
variable {t:List P}
theorem zu (h:e ∈ homes s):∃p f,e=.int ((p:Nat):Int)/\s[p]? = some f/\f ∈ bf s:=by unfold homes at h;obtain⟨x,a,rfl⟩:=cu.mp h;obtain⟨j,n,k⟩:=lw a;exact⟨x.1,x.2,rfl,by rw [n,jV];exact k,cu.mpr ⟨x,a,rfl⟩⟩
theorem xi (h:∀p x,s[p]? = some x->g (.int ((p:Nat):Int))=f x):(homes s).map g=(bf s).map f:=by
 unfold homes bf;rw [mD,mD];refine List.map_congr_left fun x n=>?_
 obtain⟨j,e,a⟩:=lw n;exact h x.1 x.2 (by rw [e,jV];exact a)
theorem fI (xs:List e):xs.filter (fun _=>true)=xs:=List.filter_eq_self.mpr fun _ _=>rfl
theorem jw:(homes f).length=(bf f).length:=by simp [homes,bf]
theorem aX (h:xs[e]? = some s):L2.atI xs ((e:Nat):Int)=some s:=be (by lia) (by simpa using h)
theorem yr (q:∀f ∈ s,gF t f) (r w:P) (S:aF):bo (ak 7) dZ (ac ar (ac ar (ac ar (vv 0) (vi 0)) (vv 7)) (vi 0)) (homes s) [qp (.tup [.lst s,r,w]),none,none,none,none,none,none,none] S=some ((aN s).map .str,S):=by
 rw [df (p:=fun _=>true) (f:=fun v=>match v with | .int i=>(match s[i.toNat]? with | some f=>.str (bj f) | none=>.non) | _=>.non) (Inv:=fun L=>∃d,L=[qp (.tup [.lst s,r,w]),none,none,none,none,none,none,d]) (fun v g L m=>?_) ⟨none,rfl⟩]
 .rw [fI,xi (f:=fun f=>.str (bj f)) fun p x j=>by simp [j]];simp [aN]
 .obtain⟨d,rfl⟩:=m;obtain⟨p,f,rfl,k,h⟩:=zu g;obtain⟨l,c,o,a,b,n,u,rfl⟩:=jc q h;have e:=aX k;exact⟨[qp (.tup [.lst s,r,w]),none,none,none,none,none,none,qi (p:Int)],rfl,⟨_,rfl⟩,rfl,fun _=>by simp [e,k,bj]⟩
noncomputable def oth (N:LS) (s:Str) (n:Nat):List Nat:=(eI N s).filter fun o=>!decide (n=o)
theorem wU (N:LS) (a b:Str) (k:P) (c:Int) (x s:Bool) (l r:D) (o:Nat) (q n:Option D) (S:aF):bo (ak 7) (gi (bV (aE ou (aa 7) (aa 4))) (bV (aE eC (eV (ac ar (vv 1) (vv 7))) (eV (ac ar (vv 3) (vi 1)))))) (vv 7) (Ev.intsFrom 0 N.length)
  [some l,ql (N.map .str),some r,qp (.tup [.str a,.str b,k,.int c,.bl x,.bl s]),qi (o:Int),q,n,none] S=some (du (oth N b o),S):=by
 rw [df (p:=fun v=>match v with | .int i=>(!decide (o=i.toNat)) && decide (N[i.toNat]? = some b) | _=>false) (f:=id) (Inv:=fun L=>∃d,L=[some l,ql (N.map .str),some r,qp (.tup [.str a,.str b,k,.int c,.bl x,.bl s]),qi (o:Int),q,n,d]) (fun v j L w=>?_) ⟨none,rfl⟩]
 .congr 2;unfold Ev.intsFrom du oth eI;rw [List.filter_map,List.map_id,List.filter_filter];simp only [eK];congr 1
 .obtain⟨d,rfl⟩:=w;obtain⟨i,rfl,u⟩:=dC j;simp only [eK];have g:N[i]? = some N[i]:=cG u;have e:L2.atI (N.map P.str) (i:Int)=some (.str N[i]):=aX (by rw [List.getElem?_map,g];rfl);refine⟨[some l,ql (N.map .str),some r,qp (.tup [.str a,.str b,k,.int c,.bl x,.bl s]),qi (o:Int),q,n,qi (i:Int)],rfl,⟨_,rfl⟩,?_,fun _=>by simp⟩;by_cases h:o=i
  .simp [h]
  .have m:¬(i:Int)=(o:Int):=by lia
   have t:¬i=o:=fun z=>h z.symm;simp [h,m,t,e,g];first | done | exact decide_eq_decide.mpr Iff.rfl
theorem AS (road:P) (n:Nat) (L:Lc) (l:L.length=8) (g:L[3]? = some (qp road)) (x:L[4]? = some (qi (n:Int))) (os:List Nat) (S:aF):bo (ak 7) dZ (aD (v3 (vv 3) (vv 4) (vv 7))) (du os) L S=some (os.map fun o=>pr road n o,S):=by
 rw [df (p:=fun _=>true) (f:=fun v=>.tup [road,.int (n:Int),v]) (Inv:=fun h=>∃d,h=L.set 7 d) (fun v b h a=>?_) ⟨L[7],(ie (by lia)).symm⟩]
 .rw [fI];unfold du pr;rw [mD];rfl
 .obtain⟨d,rfl⟩:=a;have k:((L.set 7 d).set 7 (qp v))[7]? = some (qp v):=by rw [dN (by simp [l])]
  have e:((L.set 7 d).set 7 (qp v))[3]? = some (qp road):=by rw [bx (by decide),bx (by decide)];exact g
  have s:((L.set 7 d).set 7 (qp v))[4]? = some (qi (n:Int)):=by rw [bx (by decide),bx (by decide)];exact x
  exact⟨_,rfl,⟨_,List.set_set ..⟩,rfl,fun _=>by simp [-List.set_set,k,e,s]⟩
noncomputable def lN (N:LS) (road:P) (n:Nat):List P:=if decide (N[n]? = some (rA road))=true then (oth N (rB road) n).map fun o=>pr road n o else []
theorem wY (N:LS) (road:P) (o:Nat) (h:N.length≤16):(lN N road o).length≤16:=by
 unfold lN;split
 .have x:=vF o road (eI N (rB road));have a:=gu N (rB road);unfold oth;lia
 .simp
theorem Jw (G E:Str->GF) (S:aF) (l:D) (N:LS) (y:N.length≤16) (v:g6 road):∀(r:List Nat) (x:List P) (d w k:Option D),(∀i ∈ r,i < N.length)->x.length+16 * r.length≤50000 ->
  ∃q s n,br (bn [ak 4,ak 5]) (d9 G E) (r.map fun (i:Nat)=>P.tup [.int (i:Int),((N.map P.str)[i]?).getD .non]) [some l,ql (N.map .str),some (.ref S.length),qp road,d,w,k] (S++[.lst (x.map .p)]) =
   some (.nx,[some l,ql (N.map .str),some (.ref S.length),qp road,q,s,n],S++[.lst ((x++r.flatMap (lN N road)).map .p)])
 | [],x,d,w,k,_,_=>⟨d,w,k,by simp [br]⟩
 | i::r,x,d,w,k,F,R=>by
  simp only [bt] at R;have t:=wY N road i y;have K:=F i List.mem_cons_self;have z:N[i]? = some N[i]:=cG K;have H:((N.map P.str)[i]?).getD .non=.str N[i]:=by rw [List.getElem?_map,z];rfl
  rw [mS,<- List.append_assoc,List.map_cons,H];by_cases h:N[i]=rA road
  .have g:lN N road i=(oth N (rB road) i).map fun o=>pr road i o:=by unfold lN;rw [z,h];simp
   rw [g] at t ⊢;obtain⟨q,s,n,e⟩:=Jw G E S l N y v r (x++(oth N (rB road) i).map fun o=>pr road i o) (qi (i:Int)) (qs (N[i])) (ql (du (oth N (rB road) i))) (fun j A=>F j (aZ _ A)) (by rw [cV];lia);refine⟨q,s,n,?_⟩;refine (cm (L1:=[some l,ql (N.map .str),some (.ref S.length),qp road,qi (i:Int),qs (N[i]),k]) rfl ?_).trans e;have p:x.length+(oth N (rB road) i).length≤1000000:=by rw [bu] at t;lia
   have f:(oth N (rB road) i).length≤1000000:=by lia
   have m:(du (oth N (rB road) i)).length=(oth N (rB road) i).length:=by simp [du]
   have T:N.length < 1000000:=by lia
   have C:N.length≤1000000:=by lia
   have u:=AS road i [some l,ql (N.map .str),some (.ref S.length),qp road,qi (i:Int),qs (N[i]),ql (du (oth N (rB road) i)),none] rfl rfl rfl (oth N (rB road) i) (S++[.lst (x.map .p)]);obtain⟨a,b,M,c,I,J,O,Q,B,_,_,rfl⟩:=v;have L:=wU N a b (.str M) c I J l (.ref S.length) i (qs (N[i])) k (S++[.lst (x.map .p)]);simp only [rA,rB] at h p f m u ⊢;simp [d9,h,aU,cd,cK,T,C,bc,jC,dt,m,f,p];simp [h] at L u;simp [L,u,m,f,p]
  .have g:lN N road i=[]:=by unfold lN;rw [z];simp [h]
   rw [g,List.append_nil];obtain⟨q,s,n,e⟩:=Jw G E S l N y v r x (qi (i:Int)) (qs (N[i])) k (fun j A=>F j (aZ _ A)) (by lia);refine⟨q,s,n,?_⟩;refine (cm (L1:=[some l,ql (N.map .str),some (.ref S.length),qp road,qi (i:Int),qs (N[i]),k]) rfl ?_).trans e;obtain⟨a,b,M,c,I,J,O,Q,B,_,_,rfl⟩:=v;simp only [rA] at h;simp [d9,h]
end
section
variable {t:List P}
theorem je (p:e->Bool) (f:e->List s):∀xs:List e,(xs.filter p).flatMap f=xs.flatMap fun x=>if p x=true then f x else []
 | []=>rfl
 | x::r=>by
  by_cases h:p x=true
  .rw [ud h,mS,mS,je p f r,if_pos h]
  .rw [uc h,mS,je p f r,if_neg h,gX]
theorem C_ (N:LS) (road:P):(List.range N.length).flatMap (lN N road)=yq N road:=by unfold yq;rw [show eI N (rA road)=(List.range N.length).filter (fun i=>decide (N[i]? = some (rA road))) from rfl,je];rfl
theorem lj (N:LS) (road:P) (h:N.length≤16):(yq N road).length≤256:=by
 have x:=gu N (rA road);have a:=gu N (rB road);have:=vN N road (eI N (rB road)) (by lia) (eI N (rA road))
 unfold yq;lia
theorem Kb (g u:Str->GF) (S:aF) (p:D) (N:LS) (d:N.length≤16):∀(o:List P) (a:List P) (t q e n:Option D),(∀r ∈ o,g6 r)->a.length+256 * o.length≤10000 ->
  ∃w x s k,br (ak 3) (iN g u) o [some p,ql (N.map .str),some (.ref S.length),t,q,e,n] (S++[.lst (a.map .p)]) =
   some (.nx,[some p,ql (N.map .str),some (.ref S.length),w,x,s,k],S++[.lst ((a++bF N o).map .p)])
 | [],a,t,q,e,n,_,_=>⟨t,q,e,n,by simp [br,bF]⟩
 | road::o,a,t,q,e,n,l,H=>by simp only [bt] at H;obtain⟨x,s,k,v⟩:=Jw g u S p N d (l road List.mem_cons_self) (List.range N.length) a q e n (fun i z=>by simpa using z) (by simp;lia);have F:=lj N road d;obtain⟨f,b,c,m,y⟩:=Kb g u S p N d o (a++yq N road) (qp road) x s k (fun r h=>l r (aZ _ h)) (by rw [cV];lia);refine⟨f,b,c,m,?_⟩;rw [show bF N (road::o)=yq N road++bF N o by simp [bF],<- List.append_assoc];refine (cm (L1:=[some p,ql (N.map .str),some (.ref S.length),qp road,q,e,n]) rfl ?_).trans y;rw [C_] at v;have j:=GX (N.map P.str);rw [bu] at j;rw [<- j] at v;show cN _ _ _ _ _=_;simp only [eO];rw [show v0 (vv 1) [some p,ql (N.map .str),some (.ref S.length),qp road,q,e,n] (S++[.lst (a.map .p)])=some (b_ 0 (N.map P.str),S++[.lst (a.map .p)]) by simp];exact v
theorem B1 (k:3≤n) (h:Pln y s f) (S:aF):Ph n "pairs_of" [.p (.tup [.lst y,.lst s,.lst f])] S=some (.ref S.length,S++[.lst ((bF (aN y) s).map .p)]):=by
 obtain⟨n,rfl⟩:=fM (n:=n) (by first | assumption | lia);have:=h.rl
 have x:=qK (n:=n+1) (by lia) h.hf h.f0.2 (.lst s) (.lst f);have a:=yr h.hf (.lst s) (.lst f) S;obtain⟨q,b,c,m,e⟩:=Kb (Ph (n+1)) (Ph n) S (.p (.tup [.lst y,.lst s,.lst f])) (aN y) (aQ (lx h) (by decide)) s [] none none none none h.hr (by simp;lia);have l:(homes y).length≤1000000:=by rw [jw];have:=gn h;lia
 rw [qM];simp only [gX,List.map_nil] at e;simp [cI,kK,x,aU,l,jC,a,e]
theorem AU (x:3≤n) (h:Pln f s e):pureOf (Ph n "pairs_of") [.tup [.lst f,.lst s,.lst e]]=some (.lst (bF (aN f) s)):=by unfold pureOf;rw [List.map_cons,List.map_nil,B1 x h []];simp
noncomputable def nJ:P->P
 | .tup [_,_,_,x]=>x
 | _=>.non
noncomputable def gH:P->P
 | .tup [_,_,_,.lst a,.lst w,_]=>.tup [.int 0,.tup (a.map nJ),.tup (List.replicate w.length (.int (-1)))]
 | _=>.non
theorem Bq (n:∀c ∈ a,nD c) (L:Lc) (j:Nat) (e:j < L.length) (S:aF):bo (ak j) dZ (ac ar (vv j) (vi 3)) a L S=some (a.map nJ,S):=by
 rw [df (p:=fun _=>true) (f:=nJ) (Inv:=fun h=>∃d,h=L.set j d) (fun v k h s=>?_) ⟨L[j],(ie e).symm⟩]
 .rw [fI]
 .obtain⟨d,rfl⟩:=s;obtain⟨x,lo,i,t,b,_,_,_,_,rfl⟩:=n v k;have g:((L.set j d).set j (qp (.tup [.str x,.int lo,.int i,.int t])))[j]? = some (qp (.tup [.str x,.int lo,.int i,.int t])):=by
   rw [dN (by simpa using e)]
  exact⟨_,rfl,⟨_,List.set_set ..⟩,rfl,fun _=>by simp [-List.set_set,g,nJ]⟩
theorem EL (a b c d e f:P):L2.atI [a,b,c,d,e,f] 3=some d:=be (by decide) rfl
theorem JY (a b c d e f:P):L2.atI [a,b,c,d,e,f] 4=some e:=be (by decide) rfl
theorem wt (B A:Str->GF) (S:∀f ∈ s,gF t f) (o i:P):∀(k:List (Nat×P)) (h:List P) (g d u:Option D),(∀x ∈ k,s[x.1]? = some x.2)->h.length+k.length≤1000 ->
  ∃q b v,br (ak 2) (iG B A) (k.map fun x=>P.int (x.1:Int)) [qp (.tup [.lst s,o,i]),some (.ref 0),g,d,u] [.lst (h.map .p)] =
   some (.nx,[qp (.tup [.lst s,o,i]),some (.ref 0),q,b,v],[.lst ((h++k.map fun x=>gH x.2).map .p)])
 | [],h,g,d,u,_,_=>⟨g,d,u,by simp [br]⟩
 | x::k,h,g,d,u,K,G=>by
  simp only [bt] at G;obtain⟨p,f⟩:=x;have F:s[p]? = some f:=K (p,f) List.mem_cons_self;obtain⟨H,c,r,a,w,n,m,rfl⟩:=S f (bY F);have E:=aX F;obtain⟨q,b,v,e⟩:=wt B A S o i k (h++[gH (.tup [.str H,.int (c:Int),.lst r,.lst a,.lst w,.lst n])]) (qi (p:Int)) (ql a) (ql w) (fun y I=>K y (aZ _ I)) (by simp;lia);refine⟨q,b,v,?_⟩;rw [List.map_cons,List.map_cons,show h++gH (.tup [.str H,.int (c:Int),.lst r,.lst a,.lst w,.lst n])::k.map (fun x=>gH x.2)=h++[gH (.tup [.str H,.int (c:Int),.lst r,.lst a,.lst w,.lst n])]++k.map (fun x=>gH x.2) by simp];refine (cm (L1:=[qp (.tup [.lst s,o,i]),some (.ref 0),qi (p:Int),d,u]) rfl ?_).trans e;have C:=Bq m.hce.1 [qp (.tup [.lst s,o,i]),some (.ref 0),qi (p:Int),ql a,ql w,none] 5 (by simp) [.lst (h.map .p)];have j:a.length≤1000000:=by have:=m.cl;lia
  have z:w.length≤1000000/\w.length < 1000000:=by have:=m.wl;lia
  have l:h.length≤1000000:=by lia
  rw [<- cO];simp [iG,E,EL,JY,aU,j,jC,C,d5,cd,cK,z,dt,l,gH]
theorem z7 (w:4≤n) (h:Pln f s y):pureOf (Ph n "begin") [.tup [.lst f,.lst s,.lst y]]=some (.tup [.tup ((bf f).map gH),.tup (List.replicate (bF (aN f) s).length (.tup []))]):=by
 obtain⟨n,rfl⟩:=fM (n:=n) (by first | assumption | lia);have c:=qK (n:=n+1) (by lia) h.hf h.f0.2 (.lst s) (.lst y);have a:=AU (n:=n+1) (by lia) h;have q:=zt 0 h.hf;have l:=h.f0.2;obtain⟨z,o,H,e⟩:=wt (Ph (n+1)) (Ph n) h.hf (.lst s) (.lst y) (hw 0 f) [] none none none (fun x d=>by obtain⟨j,a,m⟩:=lw d;rw [a,jV];exact m) (by simp;lia);have v:(bF (aN f) s).length≤2048:=by
  have N:(aN f).length≤16:=aQ (lx h) (by decide);have b:∀t:List P,(bF (aN f) t).length≤256 * t.length:=by
   intro t;induction t with
   | nil=>simp [bF]
   | cons r t g=>have:=lj (aN f) r N;rw [show bF (aN f) (r::t)=yq (aN f) r++bF (aN f) t by simp [bF],cV,bt];lia
  have:=b s;have:=h.rl
  lia
 have p:(bF (aN f) s).length≤1000000:=by lia
 have k:(bF (aN f) s).length < 1000000:=by lia
 rw [xp,ag];simp only [gX,List.map_nil] at e;rw [show (hw 0 f).map (fun x=>P.int (x.1:Int))=homes f from rfl,show (hw 0 f).map (fun x=>gH x.2)=(bf f).map gH by simp [bf]] at e;have i:∀vs:List P,toP 9 (.ref 0) [.lst (vs.map .p)]=some (.lst vs,[.fz (.lst vs)]):=sh;generalize (bf f).map gH=u at e ⊢;simp [pE,c,a,e,d5,cd,cK,p,k]
end
noncomputable def jt (S:aF) (j:Nat) (xs:List P):Prop:=S[j]? = some (.lst (xs.map .p))\/S[j]? = some (.fz (.lst xs))
variable {xs:List P}{m:List P}
theorem yW (h:xs.map D.p=m.map D.p):xs=m:=(List.map_inj_right (f:=D.p) fun _ _ h=>D.p.inj h).mp h
variable {S:aF}{j:Nat}
theorem jt.lt (h:jt S j xs):j < S.length:=by rcases h with h | h <;> exact (List.getElem?_eq_some_iff.mp h).1
theorem jt.frz (h:jt S j xs):toP 9 (.ref j) S=some (.lst xs,S.set j (.fz (.lst xs))):=by
 rcases h with h | h
 .exact fY h
 .have:S.set j (.fz (.lst xs))=S:=by
   obtain⟨a,x⟩:=List.getElem?_eq_some_iff.mp h;rw [<- x,ie]
  rw [this];simp [toP,h]
variable {L:Lc}
theorem jt.ix (h:jt S j xs){i:Int} (r:s L S=some (.ref j,S)) (x:k L S=some (.int i,S)) (e:L2.atI xs i=some f):tf s k L S=some (.p f,S):=by
 rw [ji,r,aA,x,aA];rcases h with h | h
 .simp only [h];rw [rN,e];rfl
 .simp only [h];show (L2.atI xs i).map _=_;rw [e];rfl
theorem jt.len (h:jt S j xs):cd (.ref j) S=some xs.length:=by rcases h with h | h <;> simp [cd,h,cK]
structure Fr (b:Nat) (S S':aF):Prop where
 len:S.length≤S'.length
 low:∀k o,k < b->S[k]? = some o->S'[k]? = some o\/∃xs,o=.lst (xs.map .p)/\S'[k]? = some (.fz (.lst xs))
 hi:∀k o,b≤k->S[k]? = some o->S'[k]? = some o
theorem Fr.refl (b:Nat) (S:aF):Fr b S S:=⟨Nat.le_refl _,fun _ _ _ h=>.inl h,fun _ _ _ h=>h⟩
variable {b:Nat}{x:aF}
theorem Fr.trans (h:Fr b S x) (g:Fr b x f):Fr b S f:=by
 refine⟨aQ h.len g.len,fun k o a e=>?_,fun k o a e=>g.hi k o a (h.hi k o a e)⟩;rcases h.low k o a e with s | ⟨xs,rfl,s⟩
 .exact g.low k o a s
 .rcases g.low k _ a s with s | ⟨m,q,_⟩
  .exact .inr ⟨xs,rfl,s⟩
  .cases q
theorem Fr.app (b:Nat) (S T:aF):Fr b S (S++T):=by
 have y:∀k o,S[k]? = some o->(S++T)[k]? = some o:=fun k o e=>by rw [List.getElem?_append_left (bD e)];exact e
 exact⟨by simp,fun k o _ e=>.inl (y k o e),fun k o _ e=>y k o e⟩
variable {k:Nat}
theorem Fr.set (h:Fr b S x) (s:b≤S.length) (n:S.length≤k) (o:SO):Fr b S (x.set k o):=by
 refine⟨by rw [eM];exact h.len,fun j u a e=>?_,fun j u a e=>?_⟩
 .rw [bx (by lia)];exact h.low j u a e
 .have:=bD e;rw [bx (by lia)];exact h.hi j u a e
theorem Fr.frz (a:j < b) (h:jt S j xs):Fr b S (S.set j (.fz (.lst xs))):=by
 refine⟨by simp,fun k o x e=>?_,fun k o x e=>?_⟩
 .by_cases q:j=k
  .subst q;rw [dN h.lt];rcases h with h | h <;> (rw [h] at e;cases e)
   .exact .inr ⟨xs,rfl,rfl⟩
   .exact .inl rfl
  .rw [bx q];exact .inl e
 .rw [bx (by lia)];exact e
theorem Fr.trunc (h:Fr b S x):Fr b S (trunc S.length x):=by
 unfold Ev.trunc;split
 .refine⟨by rw [ib];have:=h.len;lia,fun k o a e=>?_,fun k o a e=>?_⟩
  .rw [ii (bD e)];exact h.low k o a e
  .rw [ii (bD e)];exact h.hi k o a e
 .exact h
theorem jt.fr (h:Fr b S x) (g:jt S j xs):jt x j xs:=by
 by_cases a:j < b
 .rcases g with g | g
  .rcases h.low j _ a g with e | ⟨m,q,e⟩
   .exact .inl e
   .have:xs=m:=yW (SO.lst.inj q);subst this;exact .inr e
  .rcases h.low j _ a g with e | ⟨m,q,e⟩
   .exact .inr e
   .cases q
 .rcases g with g | g
  .exact .inl (h.hi j _ (by lia) g)
  .exact .inr (h.hi j _ (by lia) g)
noncomputable def my (S x:aF) (d:D) (m:List P):Prop:=d=.p (.lst m)\/∃k,S.length≤k/\d=.ref k/\jt x k m
variable {d:D}
theorem my.toP (h:my S x d m) (f:Fr b S x) (e:b≤S.length):∃a,toP 9 d x=some (.lst m,a)/\Fr b S a:=by
 rcases h with rfl | ⟨k,s,rfl,h⟩
 .exact⟨x,by simp,f⟩
 .exact⟨_,h.frz,f.set e s _⟩
variable {g:GF}{q:oa}{l:List D}
theorem n0 (s:q L S=some (l,S)) (k:g l S=some (d,x)) (r:Fr b S x) (n:b≤S.length) (h:my S x d m):∃a,b7 g q L S=some (.lst m,a)/\Fr b S a:=by obtain⟨c,e,f⟩:=h.toP r n;exact⟨_,by rw [oW,s,aA,k,aA,e,aA],f.trunc⟩
theorem wr (a:q L S=some (l,S)) (s:g l S=some (.p e,x)) (f:Fr b S x):∃h,b7 g q L S=some (e,h)/\Fr b S h:=
 ⟨_,by rw [oW,a,aA,s,aA];rfl,f.trunc⟩
structure BD where
 fams:List P
 roads:List P
 wishes:List P
 ks:List (List bC)
 vs:List D
noncomputable def BD.N (B:BD):LS:=aN B.fams
noncomputable def BD.PR (B:BD):List P:=bF B.N B.roads
noncomputable def fields:LS:=["families","homes","pairs","places","members"]
structure Bat (B:BD) (b i jh jp jl jm:Nat) (mk:List bC) (mv:List D) (S:aF):Prop where
 ins:S[i]? = some (.ins "Board" fields [.p (.lst B.fams),.ref jh,.ref jp,.ref jl,.ref jm])
 ho:jt S jh (homes B.fams)
 pr:jt S jp B.PR
 pl:S[jl]? = some (.dtt B.ks B.vs)
 me:S[jm]? = some (.dct mk mv)
 mm:∀s ∈ B.N,∃j,j < b/\bI (.inr s) mk mv=some (.ref j)/\jt S j (du (eI B.N s))
 bi:i < b
 bh:jh < b
 bp:jp < b
 bl:jl < b
 bm:jm < b
 bs:b≤S.length
noncomputable def Bd (B:BD) (b i:Nat) (S:aF):Prop:=∃p v c r w u,Bat B b i p v c r w u S
theorem Bat.fr {B:BD}{b i p v c r:Nat}{w:List bC}{u:List D}{S x:aF} (h:Bat B b i p v c r w u S) (f:Fr b S x):Bat B b i p v c r w u x where
 ins:=by rcases f.low i _ h.bi h.ins with e | ⟨_,q,_⟩;exact e;cases q
 ho:=h.ho.fr f
 pr:=h.pr.fr f
 pl:=by rcases f.low c _ h.bl h.pl with e | ⟨_,q,_⟩;exact e;cases q
 me:=by rcases f.low r _ h.bm h.me with e | ⟨_,q,_⟩;exact e;cases q
 mm:=fun s m=>by obtain⟨j,a,n,k⟩:=h.mm s m;exact⟨j,a,n,k.fr f⟩
 bi:=h.bi
 bh:=h.bh
 bp:=h.bp
 bl:=h.bl
 bm:=h.bm
 bs:=aQ h.bs f.len
theorem Bd.fr {B:BD}{b i:Nat}{S x:aF} (h:Bd B b i S) (f:Fr b S x):Bd B b i x:=by obtain⟨p,v,c,r,w,u,h⟩:=h;exact⟨p,v,c,r,w,u,h.fr f⟩
theorem Bd.le {B:BD}{b i:Nat}{S:aF} (h:Bd B b i S):b≤S.length:=by obtain⟨p,v,c,r,w,u,h⟩:=h;exact h.bs
section
variable {B:BD}{b i p v c r:Nat}{w:List bC}{u:List D}{S:aF}{L:Lc}{o:EE}
theorem Bat.fld (h:Bat B b i p v c r w u S) (ho:o L S=some (.ref i,S)) (a:aT Att "Board" f=true) (x:gE f fields [.p (.lst B.fams),.ref p,.ref v,.ref c,.ref r]=some d):dD (aT Att) o f L S=some (d,S):=by rw [Bw,ho,aA];simp only [h.ins];rw [if_pos a,x];rfl
end
theorem jG:aT Att "Board" "families"=true/\aT Att "Board" "homes"=true/\aT Att "Board" "pairs"=true/\aT Att "Board" "places"=true/\aT Att "Board" "members"=true:=by decide +kernel
theorem Bb {a b c d e:D}:gE "families" fields [a,b,c,d,e]=some a/\gE "homes" fields [a,b,c,d,e]=some b/\gE "pairs" fields [a,b,c,d,e]=some c/\gE "places" fields [a,b,c,d,e]=some d/\gE "members" fields [a,b,c,d,e]=some e:=by
 have h:¬("families":Str)="homes":=by decide +kernel
 have x:¬("families":Str)="pairs":=by decide +kernel
 have s:¬("families":Str)="places":=by decide +kernel
 have k:¬("families":Str)="members":=by decide +kernel
 have f:¬("homes":Str)="pairs":=by decide +kernel
 have m:¬("homes":Str)="places":=by decide +kernel
 have r:¬("homes":Str)="members":=by decide +kernel
 have t:¬("pairs":Str)="places":=by decide +kernel
 have p:¬("pairs":Str)="members":=by decide +kernel
 have n:¬("places":Str)="members":=by decide +kernel
 simp [fields,gE,h,x,s,k,f,m,r,t,p,n]
section
variable {B:BD}{b i p v c r:Nat}{w:List bC}{u:List D}{S:aF} (h:Bat B b i p v c r w u S) {L:Lc}{o:EE} (ho:o L S=some (.ref i,S))
include h ho
theorem Bat.families:dD (aT Att) o "families" L S=some (.p (.lst B.fams),S):=h.fld ho jG.1 Bb.1
theorem Bat.homes:dD (aT Att) o "homes" L S=some (.ref p,S):=h.fld ho jG.2.1 Bb.2.1
theorem Bat.pairs:dD (aT Att) o "pairs" L S=some (.ref v,S):=h.fld ho jG.2.2.1 Bb.2.2.1
theorem Bat.places:dD (aT Att) o "places" L S=some (.ref c,S):=h.fld ho jG.2.2.2.1 Bb.2.2.2.1
theorem Bat.members:dD (aT Att) o "members" L S=some (.ref r,S):=h.fld ho jG.2.2.2.2 Bb.2.2.2.2
theorem Bat.meth (m:M "Board" e=some g) (n:fields.contains e=false) (a:q L S=some (l,S)):dm M o e q L S=g (.ref i::l) S:=by rw [hV,ho,aA];simp only [h.ins,m,n,a,aA];rfl
end
@[simp] theorem HN:¬("name":Str)="number"/\¬("plus":Str)="number"/\¬("plus":Str)="name"/\¬("minus":Str)="number"/\¬("minus":Str)="name"/\¬("minus":Str)="plus"/\¬("times":Str)="number"/\¬("times":Str)="name"/\¬("times":Str)="plus"/\¬("times":Str)="minus" /\
  ¬("not":Str)="true"/\¬("and":Str)="true"/\¬("and":Str)="not"/\¬("or":Str)="true"/\¬("or":Str)="not"/\¬("or":Str)="and"/\¬("is":Str)="true"/\¬("is":Str)="not"/\¬("is":Str)="and"/\¬("is":Str)="or" /\
  ¬("double":Str)="lose"/\¬("all":Str)="who"/\¬("any":Str)="who"/\¬("any":Str)="all"/\¬("weak":Str)="strong"/\¬("strong":Str)="weak"/\¬("heap":Str)="row"/\¬("row":Str)="heap":=by decide +kernel
theorem gq (h:xs.length+m.length≤1000000):aC (.tup xs) (.tup m)=some (.tup (xs++m)):=by
 cases xs with
 | nil=>rfl
 | cons x r=>show (if (!(x::r).isEmpty && fS ((x::r).length+m.length))=true then some (P.tup ((x::r)++m)) else none)=_;rw [if_pos (by rw [Bool.and_eq_true,kG];exact⟨rfl,h⟩)]
theorem u9 (k:Nat):cut xs none (some (k:Int))=xs.take k:=by
 unfold cut;rw [HT.sj,HT.vJ,pH,Nat.sub_zero];by_cases h:k≤xs.length
 .rw [Nat.min_eq_left h]
 .rw [Nat.min_eq_right (by lia),pP,List.take_of_length_le (by lia)]
theorem tP (k:Nat):cut xs (some (k:Int)) none=xs.drop k:=by
 unfold cut;rw [HT.sj,HT.vJ];by_cases h:k≤xs.length
 .rw [Nat.min_eq_left h,List.take_of_length_le (by simp)]
 .rw [Nat.min_eq_right (by lia),p7,List.drop_of_length_le (by lia)];simp
theorem pi (k:Nat):cut xs (some ((k:Int)+1)) none=xs.drop (k+1):=tP (k+1)
theorem BA (k:Nat):cut xs none (some ((k:Int)+1))=xs.take (k+1):=u9 (k+1)
variable {n:Nat}
theorem nj (a:2≤n) (x:k < xs.length) (l:xs.length≤900000) (v:P):pureOf (Ph n "replaced") [.tup xs,.int (k:Int),v]=some (.tup (xs.set k v)):=by obtain⟨n,rfl⟩:=fM (n:=n) (by first | assumption | lia);have e:=gq (xs:=xs.take k) (m:=[v]) (by simp;lia);have h:=gq (xs:=xs.take k++[v]) (m:=xs.drop (k+1)) (by simp;lia);rw [gb,ag];simp [eS,u9,pi,e,-List.append_assoc];rw [h];simp [List.set_eq_take_append_cons_drop,x]
theorem BU (x:2≤n) (h:xs.length≤900000):pureOf (Ph n "without") [.tup xs,.int (k:Int)]=some (.tup (xs.eraseIdx k)):=by obtain⟨n,rfl⟩:=fM (n:=n) (by first | assumption | lia);have e:=gq (xs:=xs.take k) (m:=xs.drop (k+1)) (by simp;lia);rw [gQ,ag];simp [fJ,u9,pi,e,List.eraseIdx_eq_take_drop_succ]
noncomputable def pe (l:P):Prop:=∃m i,PyData.strOk m=true/\i.natAbs≤999/\l=.tup [.str m,.int i]
theorem pe.ok (h:pe e):cc 1 e=true:=by obtain⟨m,i,x,_,rfl⟩:=h;simp [x]
noncomputable def lL (s:List P):Prop:=s.length≤3/\∀l ∈ s,pe l
theorem GW {n:Nat} (b:3≤n) {w:Str} (hw:w="lose"\/w="double") {xs:List P}{k:Nat} (x:lL xs) (a:w="double"->xs.length≤2) (f:k < xs.length):∃m,lL m/\pureOf (Ph n "flawed") [.str w,.tup xs,.int (k:Int)]=some (.tup m):=by
 obtain⟨n,rfl⟩:=fM (n:=n) (by first | assumption | lia);have:=x.1
 rcases hw with rfl | rfl
 .refine⟨xs.eraseIdx k,⟨aQ (List.length_eraseIdx_le ..) this,fun l h=>x.2 l (List.mem_of_mem_eraseIdx h)⟩,?_⟩;have e:=BU (n:=n+1) (by lia) (xs:=xs) (k:=k) (by lia);rw [nN,ag];simp [j_,e]
 .have s:=a rfl;refine⟨xs.take (k+1)++xs.drop k,⟨by simp;lia,fun l h=>?_⟩,?_⟩
  .rcases dh.mp h with h | h
   .exact x.2 l (pU h)
   .exact x.2 l (ua h)
  .have e:=gq (xs:=xs.take (k+1)) (m:=xs.drop k) (by simp;lia);rw [nN,ag];simp [j_,BA,tP,e]
theorem GK {n:Nat} (g:2≤n) {w:Str} (hw:w="lose"\/w="double") {r:P} (q:g6 r) (xs:List P):∃b,(w="double"->b=true->xs.length≤2)/\pureOf (Ph n "has_flaw") [r,.str w,.tup xs]=some (.bl b):=by
 obtain⟨n,rfl⟩:=fM (n:=n) (by first | assumption | lia);obtain⟨a,b,k,c,x,d,v,u,p,m,t,rfl⟩:=q;have e:L2.atI [P.str a,.str b,.str k,.int c,.bl x,.bl d] 3=some (.int c):=be (by decide) rfl;have s:L2.atI [P.str a,.str b,.str k,.int c,.bl x,.bl d] 4=some (.bl x):=be (by decide) rfl;have f:L2.atI [P.str a,.str b,.str k,.int c,.bl x,.bl d] 5=some (.bl d):=be (by decide) rfl;rcases hw with rfl | rfl
 .refine⟨x,fun h=>?_,?_⟩
  .have:¬("lose":Str)="double":=by decide +kernel
   exact absurd h this
  .rw [kE,ag];simp [iF,s]
 .refine⟨d && decide ((xs.length:Int) < c),fun _ h=>?_,?_⟩
  .have:=(Bool.and_eq_true _ _ ▸ h).2;have:=of_decide_eq_true this
   lia
  .rw [kE,ag];cases d <;> simp [iF,e,f,cd,cK]
theorem nE (h:∀y ∈ xs,cc 19 y=true) (x:s ∈ xs):∃i:Nat,i < xs.length/\j4 xs s=some i:=by
 unfold j4;have a:(xs.all (cc 19) && cc 19 s)=true:=by rw [Bool.and_eq_true];exact⟨bq.mpr h,h s x⟩
 rw [if_pos a];have m:pd s ∈ ma xs:=by
  clear a h;induction xs with
  | nil=>cases x
  | cons y r n=>
   rcases av.mp x with rfl | x
   .exact List.mem_cons_self
   .exact aZ _ (n x)
 have e:PyData.eqv (pd s) (pd s)=true:=PySem.SeqAt.eqv_refl _ (fB 20 s (dU (h s x) (by lia))).1;cases q:(ma xs).findIdx? fun z=>PyData.eqv z (pd s) with
 | none=>have:=List.findIdx?_eq_none_iff.mp q (pd s) m;rw [e] at this;cases this
 | some i=>
  refine⟨i,?_,rfl⟩;have:=(vj.mp q).1
  rwa [qv] at this
noncomputable def zi (n:Nat) (y:P):Prop:=∃i:Nat,i < n/\y=.int (i:Int)
theorem BW (K:2≤n) (k:Str) (t:lL xs):∃m:List P,m.length≤xs.length/\(∀y ∈ m,zi xs.length y)/\pureOf (Ph n "unlike_spots") [.str k,.tup xs]=some (.lst m):=by
 obtain⟨n,rfl⟩:=fM (n:=n) (by first | assumption | lia);have H:=t.1;have r:xs.length < 1000000:=by lia
 have q:xs.length≤1000000:=by lia
 have a:∀y ∈ intsFrom 0 xs.length,zi xs.length y:=fun y s=>by obtain⟨i,rfl,a⟩:=dC s;exact⟨i,a,by simp⟩
 by_cases b:k="row"
 .refine⟨intsFrom 0 xs.length,by rw [bc];exact Nat.le_refl _,a,?_⟩;rw [cP,ag];simp [ce,b,cd,cK,r]
 .obtain⟨m,e,u,f⟩:=hX (g:=ak 3) (c:=bV (aE eC (eV (oe (vv 1) (ac ar (vv 1) (vv 3)))) (aa 3))) (e:=vv 3) (Q:=zi xs.length) (S:=[]) (s:=intsFrom 0 xs.length) (L:=[qs k,qp (.tup xs),ql (intsFrom 0 xs.length),none]) (Inv:=fun L=>∃d,L=[qs k,qp (.tup xs),ql (intsFrom 0 xs.length),d]) (fun v o L l=>by
   obtain⟨d,rfl⟩:=l;obtain⟨i,h,rfl⟩:=a v o;have z:xs[i]? = some xs[i]:=cG h;have p:=aX z;obtain⟨j,F,w⟩:=nE (xs:=xs) (s:=xs[i]) (fun y s=>dU (t.2 y s).ok (by lia)) (dP _);exact⟨[qs k,qp (.tup xs),ql (intsFrom 0 xs.length),qi (i:Int)],decide ((j:Int)=(i:Int)),rfl,⟨_,rfl⟩,by simp [p,w],fun _=>⟨.int (i:Int),by simp,i,h,rfl⟩⟩) ⟨none,rfl⟩
  rw [bc] at f;refine⟨m,f,u,?_⟩;rw [cP,ag];simp [ce,b,cd,cK,r,q,aU,bc,jC,e]
noncomputable def kR (N:List P) (ks:List bC) (vs:List P):Prop:=∀x:Str,P.str x ∈ N->∃i:Int,i.natAbs≤999/\bI (.inr x) ks vs=some (.int i)
section
variable {N:List P}{ks:List bC}{vs:List P}
theorem oU (h:2≤n) (k:Int):pureOf (Ph n "value_of") [lp k,.dct ks vs]=some (.int k):=by obtain⟨n,rfl⟩:=fM (n:=n) (by first | assumption | lia);rw [cA,ag];simp [bK]
theorem oV (x:2≤n){i:Int} (h:bI (.inr e) ks vs=some (.int i)):pureOf (Ph n "value_of") [mf (.str e),.dct ks vs]=some (.int i):=by obtain⟨n,rfl⟩:=fM (n:=n) (by first | assumption | lia);rw [cA,ag];simp [bK,h]
theorem CB {n:Nat} (e:3≤n) {a b:P}{i j:Int} (h:pureOf (Ph (n-1) "value_of") [a,.dct ks vs]=some (.int i)) (x:pureOf (Ph (n-1) "value_of") [b,.dct ks vs]=some (.int j)):pureOf (Ph n "value_of") [.tup [.str "plus",a,b],.dct ks vs]=some (.int (i+j)):=by obtain⟨n,rfl⟩:=fM (n:=n) (by first | assumption | lia);rw [show n+2-1=n+1 by lia] at h x;rw [cA,ag];simp [bK,h,x]
theorem vp {n:Nat} (e:3≤n) {a b:P}{i j:Int} (h:pureOf (Ph (n-1) "value_of") [a,.dct ks vs]=some (.int i)) (x:pureOf (Ph (n-1) "value_of") [b,.dct ks vs]=some (.int j)):pureOf (Ph n "value_of") [.tup [.str "minus",a,b],.dct ks vs]=some (.int (i-j)):=by obtain⟨n,rfl⟩:=fM (n:=n) (by first | assumption | lia);rw [show n+2-1=n+1 by lia] at h x;rw [cA,ag];simp [bK,h,x]
theorem As {n:Nat} (e:3≤n) {a b:P}{i j:Int} (m:eZ i j=true) (h:pureOf (Ph (n-1) "value_of") [a,.dct ks vs]=some (.int i)) (x:pureOf (Ph (n-1) "value_of") [b,.dct ks vs]=some (.int j)):pureOf (Ph n "value_of") [.tup [.str "times",a,b],.dct ks vs]=some (.int (i * j)):=by obtain⟨n,rfl⟩:=fM (n:=n) (by first | assumption | lia);rw [show n+2-1=n+1 by lia] at h x;rw [cA,ag];simp [bK,h,x,m]
theorem mY (s:∀x ∈ N,ke x) (f:kR N ks vs) {t:P} (h:sQ N t) {n:Nat} (p:4≤n):∃r:Int,pureOf (Ph n "value_of") [t,.dct ks vs]=some (.int r):=by
 rcases h with ⟨k,rfl⟩ | ⟨y,a,h⟩
 .exact⟨k,oU (by lia) k⟩
 obtain⟨x,_,rfl⟩:=s y a;obtain⟨i,m,e⟩:=f x a;rcases h with rfl | ⟨k,rfl⟩ | ⟨k,j,b,c,rfl⟩ | rfl
 .exact⟨i,oV (by lia) e⟩
 .exact⟨_,CB (by lia) (oV (by lia) e) (oU (by lia) k)⟩
 .exact⟨_,vp (by lia) (As (by lia) (bz (i:=i) (j:=k) (by lia) (by lia)) (oV (by lia) e) (oU (by lia) k)) (oU (by lia) j)⟩
 .exact⟨_,vp (by lia) (oU (by lia) 1) (oV (by lia) e)⟩
theorem Ec (k:2≤n) (w:Str) (i j:Int):∃b,pureOf (Ph n "compared") [.str w,.int i,.int j]=some (.bl b):=by
 obtain⟨n,rfl⟩:=fM (n:=n) (by first | assumption | lia);rw [gc,ag];by_cases h:w="="
 .simp [bM,h]
 by_cases x:w="!="
 .refine⟨!decide (i=j),?_⟩;simp [bM,h,eq_true x]
 by_cases a:w="<"
 .simp [bM,h,x,eq_true a]
 by_cases e:w="<="
 .simp [bM,h,x,a,eq_true e]
 by_cases s:w=">"
 .simp [bM,h,x,a,e,eq_true s]
 simp [bM,h,x,a,e,s]
theorem zx (h:2≤n):pureOf (Ph n "holds") [.tup [.str "true"],.dct ks vs]=some (.bl true):=by obtain⟨n,rfl⟩:=fM (n:=n) (by first | assumption | lia);rw [eH,ag];simp [dg]
theorem GN {n:Nat} (s:6≤n) (w:Str) {a b:P}{i j:Int} (h:pureOf (Ph (n-1) "value_of") [a,.dct ks vs]=some (.int i)) (x:pureOf (Ph (n-1) "value_of") [b,.dct ks vs]=some (.int j)):∃r,pureOf (Ph n "holds") [.tup [.str "is",.str w,a,b],.dct ks vs]=some (.bl r):=by obtain⟨n,rfl⟩:=fM (n:=n) (by first | assumption | lia);rw [show n+2-1=n+1 by lia] at h x;obtain⟨r,e⟩:=Ec (n:=n+1) (by lia) w i j;refine⟨r,?_⟩;rw [eH,ag];simp [dg,h,x,e]
theorem GL (x:3≤n) (h:pureOf (Ph (n-1) "holds") [e,.dct ks vs]=some (.bl s)):pureOf (Ph n "holds") [.tup [.str "not",e],.dct ks vs]=some (.bl !s):=by obtain⟨n,rfl⟩:=fM (n:=n) (by first | assumption | lia);rw [show n+2-1=n+1 by lia] at h;rw [eH,ag];simp [dg,h]
theorem GO {n:Nat} (e:3≤n) {a b:P}{r s:Bool} (h:pureOf (Ph (n-1) "holds") [a,.dct ks vs]=some (.bl r)) (x:pureOf (Ph (n-1) "holds") [b,.dct ks vs]=some (.bl s)):pureOf (Ph n "holds") [.tup [.str "and",a,b],.dct ks vs]=some (.bl (r && s)):=by obtain⟨n,rfl⟩:=fM (n:=n) (by first | assumption | lia);rw [show n+2-1=n+1 by lia] at h x;rw [eH,ag];cases r <;> simp [dg,h,x]
theorem JM {n:Nat} (e:3≤n) {a b:P}{r s:Bool} (h:pureOf (Ph (n-1) "holds") [a,.dct ks vs]=some (.bl r)) (x:pureOf (Ph (n-1) "holds") [b,.dct ks vs]=some (.bl s)):pureOf (Ph n "holds") [.tup [.str "or",a,b],.dct ks vs]=some (.bl (r || s)):=by obtain⟨n,rfl⟩:=fM (n:=n) (by first | assumption | lia);rw [show n+2-1=n+1 by lia] at h x;rw [eH,ag];cases r <;> simp [dg,h,x]
theorem zv (k:∀x ∈ N,ke x) (f:kR N ks vs) {t:P} (h:uR N t) {n:Nat} (b:9≤n):∃r,pureOf (Ph n "holds") [t,.dct ks vs]=some (.bl r):=by
 have l:∀{t:P},kB N t->∀{n:Nat},6≤n->∃r,pureOf (Ph n "holds") [t,.dct ks vs]=some (.bl r):=fun {t} h {n} b=>by obtain⟨w,y,s,c,d,_,rfl⟩:=h;obtain⟨x,_,rfl⟩:=k y c;obtain⟨i,_,a⟩:=f x c;obtain⟨j,v⟩:=mY k f d (n:=n-1) (by lia);exact GN b w (oV (by lia) a) v
 rcases h with rfl | h | ⟨p,h,rfl⟩ | ⟨p,z,h,m,rfl⟩
 .exact⟨_,zx (by lia)⟩
 .exact l h (by lia)
 .obtain⟨r,e⟩:=l h (n:=n-1) (by lia);exact⟨_,GL (by lia) e⟩
 .obtain⟨r,e⟩:=l h (n:=n-1) (by lia);obtain⟨x,_,rfl⟩:=k z m;obtain⟨i,_,a⟩:=f x m;obtain⟨s,q⟩:=GN (n:=n-1-1) (ks:=ks) (vs:=vs) (by lia) "=" (oU (by lia) 1) (oV (by lia) a);exact⟨_,JM (by lia) e (GO (by lia) (zx (by lia)) q)⟩
end
noncomputable def cH (a:List P):List bC:=a.map fun c=>.inr (bj c)
noncomputable def CellsOk (a s:List P):Prop:=s.length=a.length/\∀c ∈ s,∃i:Int,i.natAbs≤999/\c=.int i
variable {a:List P}
theorem i_ (h:wy a):(cH a).Nodup:=by
 unfold cH;refine List.pairwise_iff_getElem.mpr fun i j e s k q=>?_
 rw [bu] at e s;rw [List.getElem_map,List.getElem_map] at q;have x:=h.2 i _ (cG e);have n:=h.2 j _ (cG s);rw [iV q,n] at x;simp at x;lia
theorem uN (a:List P):ck (o7 a)=some (cH a):=by
 unfold o7 cH;induction a with
 | nil=>rfl
 | cons c r i=>simp [ck,bZ,i]
theorem qE:∀{a k:List P},CellsOk a k->kR (o7 a) (cH a) k
 | [],_,_=>fun x h=>by cases h
 | c::r,[],h=>by have:=h.1;simp at this
 | c::r,d::s,h=>fun x p=>by
  obtain⟨i,m,rfl⟩:=h.2 d List.mem_cons_self;show ∃i:Int,_/\(if (Sum.inr (bj c):bC)=.inr x then some _ else bI (.inr x) (cH r) s)=_;by_cases e:bj c=x
  .exact⟨i,m,by rw [if_pos (by rw [e])]⟩
  .have n:P.str x ∈ o7 r:=by
    rcases av.mp p with q | q
    .exact absurd (P.str.inj q).symm e
    .exact q
   obtain⟨j,t,f⟩:=qE (a:=r) (k:=s) ⟨by have:=h.1;simpa using this,fun c b=>h.2 c (aZ _ b)⟩ x n;exact⟨j,t,by rw [if_neg fun q=>e (iV q)];exact f⟩
theorem vm (v:2≤n) (h:Fam t H f s a y e) (m:CellsOk a z) (S:aF) :
  Ph n "values_of" [.p (.tup [.str H,.int (f:Int),.lst s,.lst a,.lst y,.lst e]),.p (.tup z)] S=some (.ref S.length,S++[.dct (cH a) (z.map .p)]):=by
 obtain⟨n,rfl⟩:=fM (n:=n) (by first | assumption | lia);have r:=h.cl;have q:a.length≤1000000:=by lia
 have x:(o7 a).length≤1000000:=by simp [o7];lia
 have c:=pk h.hce.1 [qp (.tup [.str H,.int (f:Int),.lst s,.lst a,.lst y,.lst e]),qp (.tup z),none] 2 (by simp) S;have p:=i_ h.hce;have k:(cH a).length=z.length:=by rw [m.1];simp [cH]
 have l:(cH a).length≤z.length:=Nat.le_of_eq k;have b:z.take (cH a).length=z:=by rw [k,pP]
 rw [fD];simp [cI,dX,EL,aU,q,jC,c,uN,p,x,l,b,List.map_take];first | done | (rw [<- List.map_take,b])
theorem wE (k:2≤n) (x:Fam t H y s a z e) (h:CellsOk a f) :
  pureOf (Ph n "values_of") [.tup [.str H,.int (y:Int),.lst s,.lst a,.lst z,.lst e],.tup f]=some (.dct (cH a) f):=by
 unfold pureOf;rw [List.map_cons,List.map_cons,List.map_nil,vm k x h []];have:qD (toP 8) (f.map .p) [SO.dct (cH a) (f.map .p)]=some (f,[SO.dct (cH a) (f.map .p)]):=ku ..;simp [toP,this]
end My
namespace My
open PySem L2 Ev
variable {L:Lc}{S:aF}
theorem aB (h:a L S=some (.nx,e,b)):ae a g L S=g e b:=by rw [mH,h]
theorem uC (h:a L S=some (.rt d,e,b)):ae a g L S=some (.rt d,e,b):=by rw [mH,h]
noncomputable def Fn (a b:Bool):Nat->Nat->Option Bool
 | 0,0=>some false
 | 0,1=>some a
 | 1,0=>some b
 | 1,1=>some false
 | _,_=>none
noncomputable def Fm (a b c d e f:Bool):Nat->Nat->Option Bool
 | 0,0=>some false
 | 0,1=>some a
 | 0,2=>some b
 | 1,0=>some c
 | 1,1=>some false
 | 1,2=>some d
 | 2,0=>some e
 | 2,1=>some f
 | 2,2=>some false
 | _,_=>none
noncomputable def sV (n:Nat) (o:Option (Array Nat)):Bool:=match o with
 | some p=>decide (p.size=n) && p.all fun i=>decide (i < n)
 | none=>false
theorem FE:∀a b,sV 2 (Bt (Fn a b) (PySem.W.kas_sort 2))=true:=by decide +kernel
theorem FD:∀a b c d e f,sV 3 (Bt (Fm a b c d e f) (PySem.W.kas_sort 3))=true:=by decide +kernel
variable {x:P}
theorem gO (n:pe x) (k:pe y):∃b,JF x y=some b:=by
 obtain⟨m,i,_,_,rfl⟩:=n;obtain⟨s,e,_,_,rfl⟩:=k;show ∃b,uL [.str m,.int i] [.str s,.int e]=some b;unfold uL;by_cases h:m=s
 .rw [if_pos h];unfold uL;by_cases a:(i == e)=true
  .rw [if_pos a];exact⟨_,rfl⟩
  .rw [if_neg a];exact⟨_,rfl⟩
 .rw [if_neg h];exact⟨_,rfl⟩
theorem kx (h:pe x):JF x x=some false:=by obtain⟨m,i,_,_,rfl⟩:=h;show uL [.str m,.int i] [.str m,.int i]=some false;unfold uL;rw [if_pos rfl];unfold uL;rw [if_pos (by simp)];rfl
variable {n:Nat}
theorem xm (h:sV n o=true):∃p,o=some p/\p.size=n/\∀i ∈ p.toList,i < n:=by
 cases o with
 | none=>cases h
 | some p=>
  unfold sV at h;rw [Bool.and_eq_true] at h;refine⟨p,rfl,of_decide_eq_true h.1,fun i x=>?_⟩;have:=Array.all_eq_true'.mp h.2 i (by simpa using x)
  exact of_decide_eq_true this
theorem wP (h:lL r):∃t,lL t/\jj r=some (.lst t):=by
 have E:sortable r=true:=by
  unfold sortable;have:r.all nz=true:=bq.mpr fun x k=>by obtain⟨m,i,_,_,rfl⟩:=h.2 x k;rfl
  rw [this,Bool.or_true]
 have o:∃t,lL t/\lM r=some t:=by
  unfold lM;by_cases q:r.length < 2
  .exact⟨r,h,by rw [if_pos q]⟩
  .rw [if_neg q,if_pos (by have:=h.1;lia)];have s:∀n,r.length=n->n≤3->sV n (Bt (i6 r) (PySem.W.kas_sort n))=true->∃t,lL t/\((Bt (i6 r) (PySem.W.kas_sort r.length)).bind fun p=>if p.size < 64 then some (p.toList.map fun i=>r.getD i .non) else none)=some t:=fun n C D P=>by
    obtain⟨p,e,G,q⟩:=xm P;refine⟨p.toList.map fun i=>r.getD i .non,⟨by simp;lia,fun l B=>?_⟩,by rw [C,e];simp [show p.size < 64 by lia]⟩;obtain⟨i,A,rfl⟩:=cu.mp B;have:=q i A
    rw [ij,cG (by lia)];exact h.2 _ (dP _)
   match r,h,q,s with
   | [x,y],h,_,s=>
    refine s 2 rfl (by lia) ?_;have k:=h.2 x (by simp);have v:=h.2 y (by simp);obtain⟨a,u⟩:=gO k v;obtain⟨b,g⟩:=gO v k;have:i6 [x,y]=Fn a b:=by
     funext i j;match i,j with
     | 0,0=>exact kx k
     | 0,1=>exact u
     | 1,0=>exact g
     | 1,1=>exact kx v
     | 0,j+2=>rfl
     | 1,j+2=>rfl
     | i+2,0=>rfl
     | i+2,1=>rfl
     | i+2,j+2=>rfl
    rw [this];exact FE a b
   | [x,y,z],h,_,s=>
    refine s 3 rfl (by lia) ?_;have k:=h.2 x (by simp);have v:=h.2 y (by simp);have w:=h.2 z (by simp);obtain⟨a,u⟩:=gO k v;obtain⟨b,g⟩:=gO k w;obtain⟨c,H⟩:=gO v k;obtain⟨d,S⟩:=gO v w;obtain⟨e,F⟩:=gO w k;obtain⟨f,K⟩:=gO w v;have:i6 [x,y,z]=Fm a b c d e f:=by
     funext i j;match i,j with
     | 0,0=>exact kx k
     | 0,1=>exact u
     | 0,2=>exact g
     | 1,0=>exact H
     | 1,1=>exact kx v
     | 1,2=>exact S
     | 2,0=>exact F
     | 2,1=>exact K
     | 2,2=>exact kx w
     | 0,j+3=>rfl
     | 1,j+3=>rfl
     | 2,j+3=>rfl
     | i+3,0=>rfl
     | i+3,1=>rfl
     | i+3,2=>rfl
     | i+3,j+3=>rfl
    rw [this];exact FD a b c d e f
   | [],_,q,_=>simp at q
   | [_],_,q,_=>simp at q
   | _::_::_::_::_,h,_,_=>have:=h.1;simp at this
 obtain⟨t,w,e⟩:=o;exact⟨t,w,by unfold jj;rw [if_pos E,e];rfl⟩
theorem lF:i ∈ eI N a↔N[i]? = some a:=by
 unfold eI;rw [iZ];constructor
 .exact fun h=>of_decide_eq_true h.2
 .exact fun h=>⟨pI.mpr (bD h),h_ h⟩
variable {B:BD}
theorem vg (h:x ∈ B.PR):∃r ∈ B.roads,∃a b:Nat,x=pr r a b:=by unfold BD.PR bF at h;obtain⟨r,e,h⟩:=pO.mp h;unfold yq at h;obtain⟨a,_,h⟩:=pO.mp h;obtain⟨b,_,rfl⟩:=cu.mp h;exact⟨r,e,a,b,rfl⟩
theorem Hl (s:r ∈ B.roads) (x:B.N[a]? = some (rA r)) (e:B.N[b]? = some (rB r)) (h:a≠b):pr r a b ∈ B.PR:=by unfold BD.PR bF;refine pO.mpr ⟨r,s,?_⟩;unfold yq;refine pO.mpr ⟨a,lF.mpr x,cu.mpr ⟨b,?_,rfl⟩⟩;rw [iZ];exact⟨lF.mpr e,by simpa using h⟩
structure Places (B:BD):Prop where
 get:∀(r:P) (a b:Nat),pr r a b ∈ B.PR->∃d,bQ [.inl (a:Int),.inl (b:Int)] B.ks B.vs=some d
 ok:∀(x y:Int) (d:D),bQ [.inl x,.inl y] B.ks B.vs=some d->∃(k:Nat) (r:P) (a b:Nat),r ∈ B.roads/\d=.p (.int (k:Int))/\B.PR[k]? = some (pr r a b)
noncomputable def bN (B:BD) (rds:List P):Prop:=rds.length=B.PR.length/\∀r ∈ rds,∃ls,lL ls/\r=.tup ls
variable {u:List P}{k:Nat}
theorem bN.at (h:bN B u) (n:B.PR[k]? = some x):k < u.length/\∃l,lL l/\u[k]? = some (.tup l):=by
 have a:k < u.length:=by rw [h.1];exact bD n
 obtain⟨l,e,s⟩:=h.2 u[k] (dP _);exact⟨a,l,e,by rw [cG a,s]⟩
theorem bN.set (h:bN B u) (k:Nat) (a:lL l):bN B (u.set k (.tup l)):=by
 refine⟨by rw [eM];exact h.1,fun r x=>?_⟩;rcases List.mem_or_eq_of_mem_set x with x | rfl
 .exact h.2 r x
 .exact⟨l,a,rfl⟩
theorem rS (h:Pln B.fams B.roads B.wishes):B.PR.length≤2048:=by
 have N:B.N.length≤16:=aQ (lx h) (by decide);have k:∀s:List P,(bF B.N s).length≤256 * s.length:=by
  intro s;induction s with
  | nil=>simp [bF]
  | cons r s i=>have:=lj B.N r N;rw [show bF B.N (r::s)=yq B.N r++bF B.N s by simp [bF],cV,bt];lia
 have:=k B.roads;have:=h.rl
 unfold BD.PR;lia
theorem HR (h:Str->GF):mT Tb h "Board" "family_of"=some (h "Board.family_of"):=by kernel_rfl
theorem Kc (h:Str->GF):mT Tb h "Board" "hands_beside"=some (h "Board.hands_beside"):=by kernel_rfl
theorem HW:fields.contains "family_of"=false:=by decide +kernel
theorem Kj:fields.contains "hands_beside"=false:=by decide +kernel
theorem ly {a:List P}{h:Nat}{f:P} (s:(bf a)[h]? = some f):∃p:Nat,(homes a)[h]? = some (.int (p:Int))/\a[p]? = some f:=by
 unfold bf at s;unfold homes;rw [List.getElem?_map] at s ⊢;cases e:(hw 0 a)[h]? with
 | none=>rw [e] at s;cases s
 | some x=>rw [e] at s;cases s;obtain⟨j,n,k⟩:=lw (bY e);exact⟨x.1,rfl,by rw [n,jV];exact k⟩
theorem uV {n:Nat} (r:2≤n) {B:BD}{b i:Nat}{S:aF} (h:Bd B b i S) {k:Nat}{f:P} (m:(bf B.fams)[k]? = some f):Ph n "Board.family_of" [.ref i,.p (.int (k:Int))] S=some (.p f,S):=by obtain⟨n,rfl⟩:=fM (n:=n) (by first | assumption | lia);obtain⟨j,q,l,t,mk,v,h⟩:=h;obtain⟨p,e,a⟩:=ly m;have s:tf (dD (aT Att) (aa 0) "homes") (vv 1) [some (.ref i),qi (k:Int)] S=some (.p (.int (p:Int)),S):=h.ho.ix (h.homes rfl) rfl (aX e);have c:dD (aT Att) (aa 0) "families" [some (.ref i),qi (k:Int)] S=some (.p (.lst B.fams),S):=h.families rfl;rw [b6];show (match aL _ [some (.ref i),qi (k:Int)] S with | some (.rt d,_,x)=>some (d,x) | some (.nx,_,x)=>some (.p .non,x) | _=>none)=_;rw [mI,ji,c,aA,m5,s];simp [aX a]
theorem z5 (F:2≤n) (P:Pln B.fams B.roads B.wishes) (h:Bd B b i S) (k:Nat) (g:a ∈ B.N):∃e,Ph n "Board.hands_beside" [.ref i,.p (.int (k:Int)),.p (.str a)] S=some (.p (.lst (du (oth B.N a k))),e)/\Fr b S e:=by
 obtain⟨n,rfl⟩:=fM (n:=n) (by first | assumption | lia);obtain⟨A,G,C,E,mk,I,h⟩:=h;obtain⟨j,u,m,s⟩:=h.mm a g;refine⟨_,?_,Fr.frz u s⟩;have r:tf (dD (aT Att) (aa 0) "members") (vv 2) [some (.ref i),qi (k:Int),qs a] S=some (.ref j,S):=by rw [ji,h.members rfl];simp [h.me,bZ,m]
 have l:(du (eI B.N a)).length≤1000000:=by have:=gu B.N a;have:B.N.length≤4:=lx P;simp [du];lia
 have t:bo (ak 3) (bV (aE ou (aa 3) (aa 1))) (vv 3) (du (eI B.N a)) [some (.ref i),qi (k:Int),qs a,none] (S.set j (.fz (.lst (du (eI B.N a)))))=some (du (oth B.N a k),S.set j (.fz (.lst (du (eI B.N a))))):=by
  rw [df (p:=fun v=>match v with | .int x=>!decide (k=x.toNat) | _=>false) (f:=id) (Inv:=fun L=>∃d,L=[some (.ref i),qi (k:Int),qs a,d]) (fun v c L w=>?_) ⟨none,rfl⟩]
  .congr 2;unfold du oth;rw [List.filter_map,List.map_id];rfl
  .obtain⟨d,rfl⟩:=w;unfold du at c;obtain⟨o,K,rfl⟩:=cu.mp c;refine⟨[some (.ref i),qi (k:Int),qs a,qi (o:Int)],rfl,⟨_,rfl⟩,?_,fun _=>by simp⟩;by_cases q:k=o
   .simp [q]
   .have y:¬(o:Int)=(k:Int):=by lia
    have H:¬o=k:=fun z=>q z.symm;simp [q,y,H]
 rw [b8];show (match aL _ [some (.ref i),qi (k:Int),qs a] S with | some (.rt d,_,e)=>some (d,e) | some (.nx,_,e)=>some (.p .non,e) | _=>none)=_;simp only [bw,mI,s_,aU,i',m5,r,aA,s.frz];rw [if_pos (by rw [lz];exact l)];rw [show jC [] 1 [some (D.ref i),qi (k:Int),qs a]=[some (.ref i),qi (k:Int),qs a,none] from rfl,t];rfl
structure GC (B:BD) where
 b:Nat
 i:Nat
 S0:aF
 r:Nat
 bd:Bd B b i S0
 hr:S0.length≤r
theorem GC.le (G:GC B):G.b≤G.S0.length:=G.bd.le
theorem de {j:Type}{g:iK}{b:ES}{p:j->Lc->Prop}{Sp:j->aF->Prop}{r:j->Nat}{Q:P->Prop}{c M:Nat}:∀{a:List P},
  (∀x ∈ a,∃s:List P,s.length≤c/\(∀y ∈ s,Q y)/\∀G L S w,p G L->Sp G S->S[r G]? = some (.lst (w.map .p))->w.length+c≤M->∃f L2 n,g x L=some f/\b f S=some (.nx,L2,n)/\p G L2/\Sp G n/\n[r G]? = some (.lst ((w++s).map .p))) ->
  ∃s:List P,s.length≤c * a.length/\(∀y ∈ s,Q y)/\∀G L S w,p G L->Sp G S->S[r G]? = some (.lst (w.map .p))->w.length+c * a.length≤M->∃k e,br g b a L S=some (.nx,k,e)/\p G k/\Sp G e/\e[r G]? = some (.lst ((w++s).map .p))
 | [],_=>⟨[],by simp,fun _ h=>(by cases h),fun G L S w m v h _=>⟨L,S,rfl,m,v,by rw [List.append_nil];exact h⟩⟩
 | x::a,l=>by
  obtain⟨s,J,F,K⟩:=l x List.mem_cons_self;obtain⟨I,O,D,E⟩:=de (a:=a) fun y i=>l y (aZ _ i);have C:c * (x::a).length=c+c * a.length:=by rw [bt,Nat.mul_succ,Nat.add_comm]
  refine⟨s++I,by rw [C,cV];lia,fun y i=>(dh.mp i).elim (F y) (D y),fun G L S w m v h N=>?_⟩;obtain⟨f,L2,n,z,o,q,u,A⟩:=K G L S w m v h (by lia);obtain⟨k,e,H,t,d,B⟩:=E G L2 n (w++s) q u A (by rw [cV];lia);exact⟨k,e,by rw [cm z o];exact H,t,d,by rw [<- List.append_assoc];exact B⟩
theorem i4 (h:S[r]? = some o):(S.set r a)[r]? = some a:=by rw [dN (bD h)]
variable {w:List P}
theorem jy (n:r L S=some (.ref k,S)) (h:S[k]? = some (.lst (w.map .p))) (s:a L S=some (.lst y,e)) (x:e[k]? = some (.lst (w.map .p))) (l:w.length+y.length≤1000000):ci (dn r a) L S=some (.nx,L,e.set k (.lst ((w++y).map .p))):=by rw [km,uX,n,aA];simp only [dt,h,s,aA,x,bu];rw [if_pos (by rw [kG];exact l),List.map_append];rfl
theorem rQ (n:r L S=some (.ref k,S)) (h:S[k]? = some (.lst (w.map .p))) (s:a L S=some (.p y,e)) (x:e[k]? = some (.lst (w.map .p))) (l:w.length≤1000000):ci (bS r a) L S=some (.nx,L,e.set k (.lst ((w++[y]).map .p))):=by rw [km,j6,n,aA];simp only [dt,h,s,aA,x];rw [if_pos (by rw [lz,bu];exact l),List.map_append];rfl
theorem Cj (m:Pln B.fams B.roads B.wishes) (n:a ∈ B.fams):bj a ∈ B.N:=by
 have p:1≤g7 a:=by
  obtain⟨q,c,o,e,w,t,h,rfl⟩:=m.hf a n;have:=h.hcr.1
  simp [g7];lia
 have y:∀(f:List P) (k:Nat),a ∈ f->∃x ∈ hw k f,x.2=a:=by
  intro f;induction f with
  | nil=>intro k h;cases h
  | cons g r i=>
   intro k h;rcases av.mp h with rfl | h
   .exact⟨(k,a),by unfold hw;exact k_ _ (pS.mpr ⟨by lia,rfl⟩),rfl⟩
   .obtain⟨x,s,b⟩:=i (k+1) h;exact⟨x,by unfold hw;exact fP _ s,b⟩
 obtain⟨x,s,rfl⟩:=y B.fams 0 n;unfold BD.N aN bf;exact cu.mpr ⟨x.2,cu.mpr ⟨x,s,rfl⟩,rfl⟩
theorem J2 (f:(bf B.fams)[k]? = some h):B.N[k]? = some (bj h):=by unfold BD.N aN;rw [List.getElem?_map,f];rfl
noncomputable def t8 (B:BD) (u:List P) (hd:Nat) (y:P):Prop:=∃(s p k:Nat) (l:List P),y=.tup [.int (s:Int),.int (p:Int)]/\bQ [.inl (s:Int),.inl (hd:Int)] B.ks B.vs=qi (k:Int)/\k < u.length/\u[k]? = some (.tup l)/\lL l/\p < l.length
theorem CL {B:BD} (hP:Pln B.fams B.roads B.wishes) (G:Places B) {n:Nat} (hn:2≤n) {u:List P} (hr:bN B u) {hd s:Nat}{d:D} (j:bQ [.inl (s:Int),.inl (hd:Int)] B.ks B.vs=some d) {t:Str}{g:List P} :
  ∃ys:List P,ys.length≤3/\(∀y ∈ ys,t8 B u hd y)/\∀(b i:Nat) (S:aF) (r:Nat) (w:List P) (q6 W A K:Option D),Bd B b i S->S[r]? = some (.lst (w.map .p))->w.length+3≤1000000 ->
   ∃V X Y Z,c_ (Ph n) (Ph (n-1)) [some (.ref i),qp (.tup u),qi (hd:Int),qp (.tup (.str t::g)),some (.ref r),qi (s:Int),q6,W,A,K] S=some (.nx,[some (.ref i),qp (.tup u),qi (hd:Int),qp (.tup (.str t::g)),some (.ref r),qi (s:Int),V,X,Y,Z],S.set r (.lst ((w++ys).map .p))):=by
 obtain⟨k,road,a,b',J,rfl,hk⟩:=G.ok _ _ _ j;obtain⟨I,l,q,H⟩:=hr.at hk;obtain⟨ra,rb,f,c,d1,d2,ha,hb,hkd,hc1,hc2,rfl⟩:=hP.hr road J;have h3:=q.1;have e:∃e:List P,e.length≤l.length/\(∀y ∈ e,zi l.length y)/\∀(L:Lc) (S:aF),L[7]? = some (qs f)->L[8]? = some (qp (.tup l))->BV (bV (aE eC (aa 7) (eV (vt "row")))) (im (Er (dR (aa 8))) gN (cy (vi 1))) (ah (pureOf (Ph n "unlike_spots")) (v2 (vv 7) (vv 8))) L S=some (.lst e,S):=by
  obtain⟨us,O,Q,eu⟩:=BW hn f q;have hq:l.length < 1000000:=by lia
  by_cases o:f="row"
  .refine⟨cut (intsFrom 0 l.length) none (some 1),by have:=(gg (h:=intsFrom 0 l.length) (lo:=none) (i:=some 1)).2;rwa [bc] at this,fun y U=>?_,fun L S C E=>?_⟩
   .obtain⟨i,rfl,hi⟩:=dC (gg.1 y U);exact⟨i,hi,by simp⟩
   .simp [C,E,o,cd,cK,hq]
  .exact⟨us,O,Q,fun L S C E=>by simp [C,E,o,eu]⟩
 obtain⟨e,M,F,es⟩:=e;let p:P->Bool:=fun v=>match v with | .int x=>decide (bj (l.getD x.toNat .non)=t) | _=>false
 refine⟨(e.filter p).map fun v=>.tup [.int (s:Int),v],by rw [bu];exact aQ (j0 ..) (aQ M h3),fun y U=>?_,fun b i S r w q6 W A K hB hS hM=>?_⟩
 .obtain⟨v,R,rfl⟩:=cu.mp U;obtain⟨x,T,rfl⟩:=F v (iZ.mp R).1;exact⟨s,x,k,l,rfl,j,I,H,q,T⟩
 .obtain⟨jh,jp,jl,jm,mk,mv,h⟩:=hB;have e2:bo (ak 10) (bV (aE eC (eV (ac ar (ac ar (vv 8) (vv 10)) (vi 0))) (eV (ac ar (vv 3) (vi 0))))) (aD (v2 (vv 5) (vv 10))) e [some (.ref i),qp (.tup u),qi (hd:Int),qp (.tup (.str t::g)),some (.ref r),qi (s:Int),qi (k:Int),qs f,qp (.tup l),ql e,none] S=some ((e.filter p).map fun v=>.tup [.int (s:Int),v],S):=
   df (Inv:=fun L=>∃d,L=[some (.ref i),qp (.tup u),qi (hd:Int),qp (.tup (.str t::g)),some (.ref r),qi (s:Int),qi (k:Int),qs f,qp (.tup l),ql e,d]) (fun v R L G=>by obtain⟨d,rfl⟩:=G;obtain⟨x,T,rfl⟩:=F v R;have j:l[x]? = some l[x]:=cG T;obtain⟨m,z,_,_,hz⟩:=q.2 l[x] (dP _);rw [hz] at j;refine⟨[some (.ref i),qp (.tup u),qi (hd:Int),qp (.tup (.str t::g)),some (.ref r),qi (s:Int),qi (k:Int),qs f,qp (.tup l),ql e,qi (x:Int)],rfl,⟨_,rfl⟩,?_,fun _=>by simp⟩;simp [aX j,p,j,bj]) ⟨none,rfl⟩
  refine⟨qi (k:Int),qs f,qp (.tup l),ql e,?_⟩;have N:e.length≤1000000:=by lia
  unfold c_;refine (aB (e:=[some (.ref i),qp (.tup u),qi (hd:Int),qp (.tup (.str t::g)),some (.ref r),qi (s:Int),qi (k:Int),W,A,K]) (b:=S) ?_).trans ?_
  .rw [dI,we,h.places rfl];simp [iq,h.pl,ck,bZ,j]
  refine (aB (e:=[some (.ref i),qp (.tup u),qi (hd:Int),qp (.tup (.str t::g)),some (.ref r),qi (s:Int),qi (k:Int),qs f,A,K]) (b:=S) ?_).trans ?_
  .rw [dI,ji,ji,h.pr.ix (h.pairs rfl) (i:=(k:Int)) rfl (aX hk)];simp [pr]
  refine (aB (e:=[some (.ref i),qp (.tup u),qi (hd:Int),qp (.tup (.str t::g)),some (.ref r),qi (s:Int),qi (k:Int),qs f,qp (.tup l),K]) (b:=S) ?_).trans ?_
  .simp [aX H]
  refine (aB (e:=[some (.ref i),qp (.tup u),qi (hd:Int),qp (.tup (.str t::g)),some (.ref r),qi (s:Int),qi (k:Int),qs f,qp (.tup l),ql e]) (b:=S) ?_).trans ?_
  .rw [dI,s_,es _ S rfl rfl];rfl
  refine jy rfl hS ?_ hS (by rw [bu];have:=j0 p e;lia);simp only [aU,i',m5];simp [N,jC,e2]
theorem AA {B:BD} (F:Pln B.fams B.roads B.wishes) (hL:Places B) {n:Nat} (hn:4≤n) {hd:Nat}{f:P} (hf:(bf B.fams)[hd]? = some f) {u A:List P} (hr:bN B u) {J:P} (ht:lu (bj f) B.roads A J) :
  ∃v:List P,v.length≤12/\(∀y ∈ v,(J=.non/\y=.non)\/(J≠.non/\t8 B u hd y))/\∀(b i:Nat) (S:aF),Bd B b i S->∃d l,Ph n "takeable" [.ref i,.p (.tup u),.p (.int (hd:Int)),.p J] S=some (d,l)/\Fr b S l/\my S l d v:=by
 obtain⟨n,rfl⟩:=fM (n:=n) (by first | assumption | lia);rcases ht with rfl | ⟨m,a,t,k,_,_,_,_,⟨r,K,W,rfl⟩,_,rfl⟩
 .refine⟨[.non],by simp,fun y Y=>.inl ⟨rfl,by simpa using Y⟩,fun b i S H=>⟨.p (.lst [.non]),S,?_,Fr.refl _ _,.inl rfl⟩⟩;rw [eR];simp [cI,cX,rW,dO]
 .have j:rA r ∈ B.N:=by
   obtain⟨⟨f',h1,R⟩,_⟩:=F.ra r K;rw [<- R];exact Cj F h1
  obtain⟨v,h1,R,h3⟩:=de (j:=GC B) (g:=ak 5) (b:=c_ (Ph (n+1)) (Ph n)) (Sp:=fun G S=>Fr G.b G.S0 S) (r:=fun G=>G.r) (Q:=t8 B u hd) (c:=3) (M:=1000) (a:=du (oth B.N (rA r) hd))
   (p:=fun G L=>∃Z C D E I,L=[some (.ref G.i),qp (.tup u),qi (hd:Int),qp (.tup [.str m,.str (rA r),.str t,.str k]),some (.ref G.r),Z,C,D,E,I]) (fun x hx=>by
    unfold du at hx;obtain⟨s,j,rfl⟩:=cu.mp hx;unfold oth at j;rw [iZ] at j;have X:s≠hd:=fun q=>by have:=j.2;simp [q] at this
    obtain⟨d,hg⟩:=hL.get r s hd (Hl K (lF.mp j.1) (by rw [J2 hf,W]) X);obtain⟨v,k1,k2,k3⟩:=CL F hL (n:=n+1) (by lia) hr hg (t:=m) (g:=[.str (rA r),.str t,.str k]);refine⟨v,k1,k2,fun G L S w U hS h hM=>?_⟩;obtain⟨Z,C,D,E,I,rfl⟩:=U;obtain⟨q6',q7',q8',q9',e⟩:=k3 G.b G.i S G.r w C D E I (G.bd.fr hS) h (by lia);exact⟨_,_,_,rfl,e,⟨_,_,_,_,_,rfl⟩,hS.set G.le G.hr _,i4 h⟩)
  have hol:(du (oth B.N (rA r) hd)).length≤4:=by
   have h4:B.N.length≤4:=lx F;have:=gu B.N (rA r)
   have:=j0 (fun o=>!decide (hd=o)) (eI B.N (rA r));simp [du,oth];lia
  refine⟨v,by lia,fun y Y=>.inr ⟨fun q=>(by cases q),R y Y⟩,fun b i S H=>?_⟩;have p:=Fr.app b S [.lst []];obtain⟨S1,e1,z⟩:=z5 (n:=n+1) (by lia) F (H.fr p) hd j;have N:=p.trans z;have hb:=H.le;obtain⟨L',l,e2,⟨Z,C,D,E,I,rfl⟩,O,hl⟩:=h3 ⟨b,i,S,S.length,H,Nat.le_refl _⟩ [some (.ref i),qp (.tup u),qi (hd:Int),qp (.tup [.str m,.str (rA r),.str t,.str k]),some (.ref S.length),none,none,none,none,none] S1 [] ⟨_,_,_,_,_,rfl⟩ N (z.hi _ _ hb (iH _ _)) (by simp;lia);refine⟨.ref S.length,l,?_,O,.inr ⟨S.length,Nat.le_refl _,rfl,.inl hl⟩⟩;rw [eR];have T:=H.fr p;obtain⟨jh,jp,jl,jm,mk,mv,V⟩:=T;have em:dm (mT Tb (Ph (n+1))) (aa 0) "hands_beside" (ab (aa 2) (ab (eV (ac ar (vv 3) (vi 1))) aY)) [some (.ref i),qp (.tup u),qi (hd:Int),qp (.tup [.str m,.str (rA r),.str t,.str k]),some (.ref S.length),none,none,none,none,none] (S++[.lst []])=some (.p (.lst (du (oth B.N (rA r) hd))),S1):=
   (V.meth rfl (Kc _) Kj (l:=[.p (.int (hd:Int)),.p (.str (rA r))]) (by simp)).trans e1
  simp [cI,cX,rW,dO,-hV,em,e2]
noncomputable def qI (v:P):Prop:=∃j:Int,v=.int j
theorem qI.ok (h:qI v) (n:Nat):cc n v=true:=by obtain⟨j,rfl⟩:=h;simp
variable {m:Str}
theorem Dc (hP:Pln B.fams B.roads B.wishes) (hL:Places B) (hn:2≤n) (T:bN B u) (hd t v:Int) (hm:PyData.strOk m=true) :
  ∃I:Option (List P),(∀j,I=some j->bN B j)/\∀(b i:Nat) (S:aF) (s:P) (p e x:Option D),Bd B b i S->∃C E G,
   dY (Ph n) (Ph (n-1)) [some (.ref i),qp (.tup u),qi hd,qp s,qp (.tup [.str m,.int v]),qi t,p,e,x] S=match I with
    | none=>some (.rt (.p .non),[some (.ref i),qp (.tup u),qi hd,qp s,qp (.tup [.str m,.int v]),qi t,C,E,G],S)
    | some j=>some (.nx,[some (.ref i),qp (.tup j),qi hd,qp s,qp (.tup [.str m,.int v]),qi t,C,E,G],S):=by
 cases N:bQ [.inl hd,.inl t] B.ks B.vs with
 | none=>
  refine⟨none,fun _ q=>(by cases q),fun b i S s p e x r=>⟨qp .non,e,x,?_⟩⟩;obtain⟨V,Y,W,X,mk,Z,h⟩:=r;unfold dY;refine (aB (e:=[some (.ref i),qp (.tup u),qi hd,qp s,qp (.tup [.str m,.int v]),qi t,qp .non,e,x]) (b:=S) ?_).trans (uC ?_)
  .rw [dI,ti,h.places rfl];simp [iq,h.pl,ck,bZ,N]
  .simp [rW,dO]
 | some d=>
  obtain⟨k,road,a,b',U,rfl,O⟩:=hL.ok _ _ _ N;obtain⟨Q,A,R,l⟩:=T.at O;obtain⟨ra,rb,J,c,d1,d2,ha,hb,hkd,hc1,hc2,y⟩:=hP.hr road U;have L:L2.atI [P.str ra,.str rb,.str J,.int c,.bl d1,.bl d2] 3=some (.int c):=be (by decide) rfl;have s1:∀(b i:Nat) (S:aF) (s:P) (p e x:Option D),Bd B b i S->au 6 (tj (dD (aT Att) (aa 0) "places") (v2 (vv 2) (vv 5))) [some (.ref i),qp (.tup u),qi hd,qp s,qp (.tup [.str m,.int v]),qi t,p,e,x] S=some (.nx,[some (.ref i),qp (.tup u),qi hd,qp s,qp (.tup [.str m,.int v]),qi t,qi (k:Int),e,x],S):=fun b i S s p e x r=>by obtain⟨V,Y,W,X,mk,Z,h⟩:=r;rw [dI,ti,h.places rfl];simp [iq,h.pl,ck,bZ,N]
  by_cases hv:v.natAbs≤999
  .have g:¬(999:Int) < (if v < 0 then -v else v):=by split <;> lia
   by_cases M:c≤(A.length:Int)
   .refine⟨none,fun _ q=>(by cases q),fun b i S s p e x r=>⟨qi (k:Int),qp road,x,?_⟩⟩;refine (aB (s1 b i S s p e x r)).trans ((aB (e:=[some (.ref i),qp (.tup u),qi hd,qp s,qp (.tup [.str m,.int v]),qi t,qi (k:Int),e,x]) (b:=S) ?_).trans ((aB (e:=[some (.ref i),qp (.tup u),qi hd,qp s,qp (.tup [.str m,.int v]),qi t,qi (k:Int),qp road,x]) (b:=S) ?_).trans (uC ?_)))
    .simp [rW,dO,lY,g]
    .obtain⟨V,Y,W,X,mk,Z,h⟩:=r;rw [dI,ji,h.pr.ix (h.pairs rfl) (i:=(k:Int)) rfl (aX O)];simp [pr]
    .simp [y,aX l,cd,cK,L,M]
   .have H:(A++[P.tup [.str m,.int v]]).length≤3:=by simp;lia
    have F:lL (A++[P.tup [.str m,.int v]]):=⟨H,dH R.2 ⟨m,v,hm,hv,rfl⟩⟩;have ea:=gq (xs:=A) (m:=[P.tup [.str m,.int v]]) (by simp at H ⊢;lia);obtain⟨zs,hz,ez⟩:=wP F;have hpl:=rS hP;have hrl:=T.1;have er:=fun (w:P)=>nj hn (xs:=u) (k:=k) Q (by lia) w;obtain⟨f,o,K⟩:∃f,lL f/\((J="heap"/\f=zs)\/(¬J="heap"/\f=A++[P.tup [.str m,.int v]])):=by
     by_cases z:J="heap"
     .exact⟨zs,hz,.inl ⟨z,rfl⟩⟩
     .exact⟨_,F,.inr ⟨z,rfl⟩⟩
    refine⟨some (u.set k (.tup f)),fun _ q=>by cases q;exact T.set k o,fun b i S s p e x r=>⟨qi (k:Int),qp road,qp (.tup f),?_⟩⟩;refine (aB (s1 b i S s p e x r)).trans ((aB (e:=[some (.ref i),qp (.tup u),qi hd,qp s,qp (.tup [.str m,.int v]),qi t,qi (k:Int),e,x]) (b:=S) ?_).trans ((aB (e:=[some (.ref i),qp (.tup u),qi hd,qp s,qp (.tup [.str m,.int v]),qi t,qi (k:Int),qp road,x]) (b:=S) ?_).trans ?_))
    .simp [rW,dO,lY,g]
    .obtain⟨V,Y,W,X,mk,Z,h⟩:=r;rw [dI,ji,h.pr.ix (h.pairs rfl) (i:=(k:Int)) rfl (aX O)];simp [pr]
    rcases K with ⟨z,rfl⟩ | ⟨z,rfl⟩
    .simp [y,aX l,cd,cK,L,M,ea,z,yb,AG,ez,d5,er]
    .simp [y,aX l,cd,cK,L,M,ea,z,er]
  .have g:(999:Int) < (if v < 0 then -v else v):=by split <;> lia
   refine⟨none,fun _ q=>(by cases q),fun b i S s p e x r=>⟨qi (k:Int),e,x,?_⟩⟩;refine (aB (s1 b i S s p e x r)).trans (uC ?_);simp [rW,dO,lY,g]
theorem vO (F:Pln B.fams B.roads B.wishes) (H:Places B) (A:2≤n) (hd v:Int) (K:PyData.strOk m=true):∀{l:List P},(∀t ∈ l,qI t)->∀{u:List P},bN B u ->
  ∃r:Option (List P),(∀s,r=some s->bN B s)/\∀(b i:Nat) (S:aF) (d:P) (w f c p:Option D),Bd B b i S->∃L z h a k,
   br (ak 5) (dY (Ph n) (Ph (n-1))) l [some (.ref i),qp (.tup u),qi hd,qp d,qp (.tup [.str m,.int v]),w,f,c,p] S=match r with
    | none=>some (.rt (.p .non),L,S)
    | some s=>some (.nx,[some (.ref i),qp (.tup s),qi hd,qp d,qp (.tup [.str m,.int v]),z,h,a,k],S)
 | [],_,u,y=>⟨some u,fun _ q=>by cases q;exact y,fun b i S d w f c p _=>⟨[],w,f,c,p,rfl⟩⟩
 | t::l,C,u,y=>by
  obtain⟨j,rfl⟩:=C t List.mem_cons_self;obtain⟨r,N,o⟩:=Dc F H A y hd j v K;cases r with
  | none=>refine⟨none,fun _ q=>(by cases q),fun b i S d w f c p g=>?_⟩;obtain⟨h,a,k,e⟩:=o b i S d f c p g;exact⟨_,w,f,c,p,nK rfl e⟩
  | some s=>obtain⟨r,Q,R⟩:=vO F H A hd v K (l:=l) (fun x O=>C x (aZ _ O)) (N s rfl);refine⟨r,Q,fun b i S d w f c p g=>?_⟩;obtain⟨h,a,k,e⟩:=o b i S d f c p g;obtain⟨L,E,G,I,J,M⟩:=R b i S d (qi j) h a k g;exact⟨L,E,G,I,J,by rw [<- M];exact cm rfl e⟩
theorem AR (p:Pln B.fams B.roads B.wishes) (f:Places B) (g:3≤n) (hd v:Int) (q:PyData.strOk m=true) (w:∀t ∈ c,qI t) (d:bN B u) :
  ∃a:P,(a=.non\/∃r,bN B r/\a=.tup r)/\∀(b i:Nat) (S:aF),Bd B b i S->Ph n "posted" [.ref i,.p (.tup u),.p (.int hd),.p (.lst c),.p (.tup [.str m,.int v])] S=some (.p a,S):=by
 obtain⟨n,rfl⟩:=fM (n:=n) (by first | assumption | lia);obtain⟨s,k,x⟩:=vO p f (n:=n+1) (by lia) hd v q w d;cases s with
 | none=>refine⟨.non,.inl rfl,fun b i S h=>?_⟩;obtain⟨L,_,_,_,_,e⟩:=x b i S (.lst c) none none none none h;rw [gI];simp only [Nat.add_sub_cancel] at e;simp [cI,eD,e]
 | some r=>refine⟨.tup r,.inr ⟨r,k r rfl,rfl⟩,fun b i S h=>?_⟩;obtain⟨L,_,_,_,_,e⟩:=x b i S (.lst c) none none none none h;rw [gI];simp only [Nat.add_sub_cancel] at e;simp [cI,eD,e]
noncomputable def B8 (y:P):Prop:=∃s h,y=.tup [.tup s,.lst h]/\s.length≤1/\(∀a ∈ s,qI a)/\∀t ∈ h,qI t
noncomputable abbrev jf (n:Str) (e:Nat) (r c w s:List P):P:=.tup [.str n,.int (e:Int),.lst r,.lst c,.lst w,.lst s]
theorem vG {s:List P} (h:∀x ∈ s,ke x) {x:Str} (a:P.str x ∈ s):∃i:Nat,i < s.length/\j4 s (.str x)=some i:=nE (fun y e=>(h y e).ok 19) a
theorem tg_ok {B:BD} (G:Pln B.fams B.roads B.wishes) {n:Nat} (hn:4≤n) {hd:Nat}{J:Str}{x:Nat}{m c s e:List P} (hF:Fam B.roads J x m c s e) (hf:(bf B.fams)[hd]? = some (jf J x m c s e)) {g:List P} (hw:g.length=s.length) (R:∀w ∈ g,qI w) {u z:Str}
  (hc:(u="who"/\P.str z ∈ s)\/((u="all"\/u="any")/\∃r ∈ B.roads,rA r=J/\z=rB r)) :
  ∃T:List P,T.length≤4/\(∀y ∈ T,B8 y)/\∀(b i:Nat) (S:aF),Bd B b i S->∃F,Ph n "targets_of" [.ref i,.p (.int (hd:Int)),.p (.str u),.p (.str z),.p (.tup g)] S=some (.p (.lst T),F)/\Fr b S F:=by
 obtain⟨n,rfl⟩:=fM (n:=n) (by first | assumption | lia);rcases hc with ⟨rfl,N⟩ | ⟨D,r,O,hra,rfl⟩
 .obtain⟨k,hk,Z⟩:=vG hF.hwh N;have U:g[k]? = some (g[k]'(by lia)):=cG (by lia);generalize W:g[k]'(by lia)=v at U;have Q:qI v:=by rw [<- W];exact R _ (dP _)
  refine⟨[.tup [.tup [],.lst [v]]],by simp,fun y E=>⟨[],[v],by simpa using E,by simp,fun _ h=>(by cases h),fun t I=>by rw [List.mem_singleton.mp I];exact Q⟩,fun b i S j=>⟨S,?_,Fr.refl _ _⟩⟩;have Y:=uV (n:=n+1) (by lia) j hf;obtain⟨jh,jp,jl,jm,mk,mv,h⟩:=j;have A:dm (mT Tb (Ph (n+1))) (aa 0) "family_of" (ab (aa 1) aY) [some (.ref i),qi (hd:Int),qs "who",qs z,qp (.tup g),none] S=some (.p (jf J x m c s e),S):=
   (h.meth rfl (HR _) HW (l:=[.p (.int (hd:Int))]) (by simp)).trans Y
  rw [cQ];simp [cI,bR,-hV,A,JY,Z,aX U]
 .have hs:rB r ∈ B.N:=by
   obtain⟨_,⟨f',h1,h2⟩⟩:=G.ra r O;rw [<- h2];exact Cj G h1
  have C:(du (oth B.N (rB r) hd)).length≤4:=by
   have h4:B.N.length≤4:=lx G;have:=gu B.N (rB r)
   have:=j0 (fun o=>!decide (hd=o)) (eI B.N (rB r));simp [du,oth];lia
  have l:∀t ∈ du (oth B.N (rB r) hd),qI t:=fun t I=>by unfold du at I;obtain⟨o,_,rfl⟩:=cu.mp I;exact⟨_,rfl⟩
  have A:∀(b i:Nat) (S:aF),Bd B b i S->∃F,dm (mT Tb (Ph (n+1))) (aa 0) "hands_beside" (ab (aa 1) (ab (aa 3) aY)) [some (.ref i),qi (hd:Int),qs u,qs (rB r),qp (.tup g),none] S=some (.p (.lst (du (oth B.N (rB r) hd))),F)/\Fr b S F:=fun b i S j=>by obtain⟨H,K,q⟩:=z5 (n:=n+1) (by lia) G j hd hs;obtain⟨jh,jp,jl,jm,mk,mv,h⟩:=j;exact⟨H,(h.meth rfl (Kc _) Kj (l:=[.p (.int (hd:Int)),.p (.str (rB r))]) (by simp)).trans K,q⟩
  generalize du (oth B.N (rB r) hd)=os at C l A;rcases D with rfl | rfl
  .refine⟨[.tup [.tup [],.lst os]],by simp,fun y E=>⟨[],os,by simpa using E,by simp,fun _ h=>(by cases h),l⟩,fun b i S j=>?_⟩;obtain⟨H,K,q⟩:=A b i S j;refine⟨H,?_,q⟩;rw [cQ];simp [cI,bR,-hV,K]
  .refine⟨os.map fun o=>.tup [.tup [o],.lst [o]],by simpa using C,fun y E=>?_,fun b i S j=>?_⟩
   .obtain⟨o,V,rfl⟩:=cu.mp E;exact⟨[o],[o],rfl,by simp,fun a M=>by rw [List.mem_singleton.mp M];exact l o V,fun a M=>by rw [List.mem_singleton.mp M];exact l o V⟩
   .obtain⟨H,K,q⟩:=A b i S j;refine⟨H,?_,q⟩;have X:bo (ak 6) dZ (aD (v2 (aD (v1 (vv 6))) (a_ (v1 (vv 6))))) os [some (.ref i),qi (hd:Int),qs "any",qs (rB r),qp (.tup g),ql os,none] H=some (os.map fun o=>.tup [.tup [o],.lst [o]],H):=by
     rw [df (p:=fun _=>true) (f:=fun o=>.tup [.tup [o],.lst [o]]) (Inv:=fun L=>∃d,L=[some (.ref i),qi (hd:Int),qs "any",qs (rB r),qp (.tup g),ql os,d]) (fun v W L hL=>?_) ⟨none,rfl⟩,fI];obtain⟨d,rfl⟩:=hL;exact⟨[some (.ref i),qi (hd:Int),qs "any",qs (rB r),qp (.tup g),ql os,qp v],rfl,⟨_,rfl⟩,rfl,fun _=>by simp⟩
    have hq:os.length≤1000000:=by lia
    rw [cQ];simp [cI,bR,-hV,K,aU,hq,jC,X]
noncomputable def zh (y:P):Prop:=∃s p:Nat,y=.tup [.int (s:Int),.int (p:Int)]
theorem Fb {n:Nat} (B:3≤n) {j:List P}{d:Str}{e:Nat}{r c o t:List P} (F:Fam j d e r c o t) {x:List P} (hw:x.length=o.length) (i:∀w ∈ x,qI w) {p y:P} (H:lu d j o p) (K:(p=.non/\y=.non)\/(p≠.non/\zh y)) :
  ∃f,f.length=o.length/\(∀w ∈ f,qI w)/\pureOf (Ph n "whos_behind") [jf d e r c o t,.tup x,p,y]=some (.tup f):=by
 obtain⟨n,rfl⟩:=fM (n:=n) (by first | assumption | lia);rcases H with rfl | ⟨m,a,g,u,_,_,_,_,_,b,rfl⟩
 .refine⟨x,hw,i,?_⟩;rw [cx,ag];simp [bB,rW,dO]
 .obtain⟨s,C,rfl⟩:zh y:=by
   rcases K with ⟨q,_⟩ | ⟨_,q⟩
   .cases q
   .exact q
  by_cases v:u=""
  .refine⟨x,hw,i,?_⟩;rw [cx,ag];simp [bB,rW,dO,v]
  .obtain⟨k,A,l⟩:=vG F.hwh (b.resolve_left v);have S:=F.wl;have z:=nj (n:=n+1) (by lia) (xs:=x) (k:=k) (by lia) (by lia) (.int (s:Int));refine⟨x.set k (.int (s:Int)),by rw [eM];exact hw,fun w h=>?_,?_⟩
   .rcases List.mem_or_eq_of_mem_set h with h | rfl
    .exact i w h
    .exact⟨_,rfl⟩
   .rw [cx,ag];simp [bB,rW,dO,v,JY,l,z]
theorem qW (x:bC) (y:P):∀(n:List bC) (c:List P),n.Nodup->n.length=c.length->∃s a,nY x (.p y) n (c.map .p)=(s,a.map .p)/\s.Nodup/\s.length=a.length/\s.length≤n.length+1/\(∀k ∈ s,k=x\/k ∈ n)/\∀k,bI k s a=if x=k then some y else bI k n c
 | [],[],_,_=>⟨[x],[y],rfl,by simp,rfl,by simp,fun k h=>.inl (by simpa using h),fun k=>by by_cases q:x=k <;> simp [bI,q]⟩
 | [],_::_,_,h=>by simp at h
 | _::_,[],_,h=>by simp at h
 | f::n,v::c,m,l=>by
  obtain⟨t,m⟩:=List.nodup_cons.mp m;by_cases q:f=x
  .refine⟨f::n,y::c,by simp [nY,q],List.nodup_cons.mpr ⟨t,m⟩,by simpa using l,by simp,fun k h=>.inr h,fun k=>?_⟩;subst q;by_cases b:f=k
   .simp [bI,b]
   .simp [bI,b]
  .obtain⟨s,a,e,d,w,g,r,u⟩:=qW x y n c m (by simpa using l);refine⟨f::s,v::a,by simp [nY,q,e],List.nodup_cons.mpr ⟨fun z=>?_,d⟩,by simp [w],by simp;lia,fun k h=>?_,fun k=>?_⟩
   .rcases r f z with z | z
    .exact q z
    .exact t z
   .rcases av.mp h with rfl | h
    .exact .inr List.mem_cons_self
    .rcases r k h with h | h
     .exact .inl h
     .exact .inr (aZ _ h)
   .show (if f=k then some v else bI k s a)=_;by_cases b:f=k
    .subst b;have:¬x=f:=fun z=>q z.symm
     simp [bI,this]
    .rw [if_neg b,u];by_cases p:x=k
     .simp [p]
     .simp [p,bI,b]
structure Giv (gk:List bC) (gv:List P):Prop where
 nd:gk.Nodup
 ln:gk.length=gv.length
 le:gk.length≤100
 iv:∀k v,bI k gk gv=some v->qI v
variable {s:List bC}{f:List P}
theorem Giv.put (h:Giv s f) (l:s.length≤99) (y:bC) (i:Int):∃g x,nY y (.p (.int i)) s (f.map .p)=(g,x.map .p)/\Giv g x/\g.length≤s.length+1:=by
 obtain⟨n,b,e,c,m,r,p,t⟩:=qW y (.int i) s f h.nd h.ln;refine⟨n,b,e,⟨c,m,by lia,fun k v a=>?_⟩,r⟩;rw [t] at a;split at a
 .cases a;exact⟨_,rfl⟩
 .exact h.iv k v a
theorem vK {o:EE}{k v:EV}{L:Lc}{S n:aF}{j:Nat}{s:List bC}{f:List P}{x:Str}{i:Int} (h:Giv s f) (l:s.length≤99) (q:v L S=some (.int i,n)) (p:o L n=some (.ref j,n)) (t:k L n=some (.str x,n)) (r:n[j]? = some (.dct s (f.map .p))):∃g a,Giv g a/\g.length≤s.length+1/\eY o k v L S=some (.nx,L,n.set j (.dct g (a.map .p))):=by
 obtain⟨g,a,e,c,m⟩:=h.put l (.inr x) i;refine⟨g,a,c,m,?_⟩;have b:on o k v L S=some (.nx,L,n.set j (.dct g (a.map .p))):=by unfold on;rw [q,aA,p,aA,t,aA];simp only [jD,r,bZ];rw [if_pos ⟨h.nd,by rw [lz];lia⟩,e]
 unfold eY;rw [b]
theorem pa {k:bC}:∀{s:List bC}{x:List P},xk k s=false->bI k s x=none
 | [],_,_=>by cases ‹List P› <;> rfl
 | _::_,[],_=>rfl
 | a::s,v::x,h=>by unfold xk at h;rw [e_,Bool.or_eq_false_iff] at h;show (if a=k then some v else bI k s x)=none;rw [if_neg (of_decide_eq_false h.1)];exact pa h.2
noncomputable abbrev eN (x:Str) (m w t:P) (c s:List P) (r:P):P:=.tup [.str x,m,w,t,.lst c,.lst s,r]
theorem oh (a b c d e f g:P):L2.atI [a,b,c,d,e,f,g] 3=some d:=be (by decide) rfl
theorem BY (a b c d e f g:P):L2.atI [a,b,c,d,e,f,g] 4=some e:=be (by decide) rfl
theorem FC (a b c d e f g:P):L2.atI [a,b,c,d,e,f,g] 5=some f:=be (by decide) rfl
theorem x9 (a b c d e f g:P):L2.atI [a,b,c,d,e,f,g] 6=some g:=be (by decide) rfl
theorem Kk (a b c d e f:P):L2.atI [a,b,c,d,e,f] 2=some c:=be (by decide) rfl
theorem Lm (a b c d e f:P):L2.atI [a,b,c,d,e,f] 5=some f:=be (by decide) rfl
theorem Ed (G:Giv s f) (B:o=.dct s (f.map .p)\/o=.fz (.dct s f)) (E:nD c) (m:r[k]? = some z) (F:∃i:Int,i.natAbs≤999/\z=.int i) (T:w.length≤1000) (t p q:Option D) :
  (∃L,aJ M J [qp a,qp (.tup r),qp st,qp A,some (.ref 0),t,p,some (.ref 1),qi (k:Int),qp c,q] [o,.lst (w.map .p)]=some (.rt (.p .non),L,[.fz (.dct s f),.lst (w.map .p)])) \/
  ∃i:Int,i.natAbs≤999/\aJ M J [qp a,qp (.tup r),qp st,qp A,some (.ref 0),t,p,some (.ref 1),qi (k:Int),qp c,q] [o,.lst (w.map .p)]=some (.nx,[qp a,qp (.tup r),qp st,qp A,some (.ref 0),t,p,some (.ref 1),qi (k:Int),qp c,qi i],[.fz (.dct s f),.lst ((w++[P.int i]).map .p)]):=by
 obtain⟨x,lo,j,u,_,N,O,Q,R,rfl⟩:=E;obtain⟨K,S,rfl⟩:=F;have d:toP 9 (.ref 0) [o,.lst (w.map .p)]=some (.dct s f,[.fz (.dct s f),.lst (w.map .p)]):=by
  rcases B with rfl | rfl
  .have:qD (toP 8) (f.map .p) [SO.dct s (f.map .p),.lst (w.map .p)]=some (f,[SO.dct s (f.map .p),.lst (w.map .p)]):=ku ..;simp [toP,this]
  .rfl
 have I:qI ((bI (.inr x) s f).getD (.int K)):=by
  cases e:bI (.inr x) s f with
  | none=>exact⟨K,rfl⟩
  | some v=>exact G.iv _ v e
 obtain⟨n,h⟩:=I;have l:w.length≤1000000:=by lia
 cases b:xk (.inr x) s with
 | false=>
  have y:n=K:=by rw [pa b] at h;exact (P.int.inj h).symm
  right;refine⟨n,by rw [y];exact S,?_⟩;rw [<- cO];simp [aJ,d,bZ,aX m,h,Af,Ae,jM,b,dt,l]
 | true=>
  by_cases H:lo≤n/\n≤j
  .right;refine⟨n,by lia,?_⟩;rw [<- cO];simp [aJ,d,bZ,aX m,h,Af,Ae,jM,b,dt,l,H.1,H.2]
  .left;refine⟨[qp a,qp (.tup r),qp st,qp A,some (.ref 0),t,p,some (.ref 1),qi (k:Int),qp (.tup [.str x,.int lo,.int j,.int u]),qi n],?_⟩;by_cases g:lo≤n
   .have C:¬n≤j:=fun z=>H ⟨g,z⟩;simp [aJ,d,bZ,aX m,h,Af,Ae,jM,b,g,C]
   .simp [aJ,d,bZ,aX m,h,Af,Ae,jM,b,g]
theorem wq (v:∀c ∈ r,∃i:Int,i.natAbs≤999/\c=.int i) (G:Giv s f) (u g:Option D):∀{l:List P}{k:Nat},(∀c ∈ l,nD c)->k+l.length=r.length->∀{n:SO},(n=.dct s (f.map .p)\/n=.fz (.dct s f))->∀{w:List P},w.length=k->r.length≤1000->∀(j H q:Option D),
  (∃L S,br (bn [ak 8,ak 9]) (aJ E C) (b_ (k:Int) l) [qp b,qp (.tup r),qp st,qp A,some (.ref 0),u,g,some (.ref 1),j,H,q] [n,.lst (w.map .p)]=some (.rt (.p .non),L,S)) \/
  ∃y m t a o,y.length=l.length/\(∀c ∈ y,∃i:Int,i.natAbs≤999/\c=.int i)/\br (bn [ak 8,ak 9]) (aJ E C) (b_ (k:Int) l) [qp b,qp (.tup r),qp st,qp A,some (.ref 0),u,g,some (.ref 1),j,H,q] [n,.lst (w.map .p)]=some (.nx,[qp b,qp (.tup r),qp st,qp A,some (.ref 0),u,g,some (.ref 1),m,t,a],[o,.lst ((w++y).map .p)])
 | [],k,_,_,n,_,w,_,_,j,H,q=>.inr ⟨[],j,H,q,n,rfl,fun _ h=>(by cases h),by simp [b_,br]⟩
 | c::l,k,F,M,n,K,w,Q,N,j,H,q=>by
  simp only [bt] at M;have d:r[k]? = some (r[k]'(by lia)):=cG (by lia);unfold b_;rcases Ed (M:=E) (J:=C) (a:=b) (st:=st) (A:=A) (w:=w) G K (F c List.mem_cons_self) d (v _ (dP _)) (by lia) u g q with ⟨L,e⟩ | ⟨i,J,e⟩
  .exact .inl ⟨_,_,nK rfl e⟩
  .rcases wq (E:=E) (C:=C) (b:=b) (st:=st) (A:=A) v G u g (l:=l) (k:=k+1) (fun x O=>F x (aZ _ O)) (by lia) (n:=.fz (.dct s f)) (.inr rfl) (w:=w++[.int i]) (by simp;lia) N (qi (k:Int)) (qp c) (qi i) with ⟨L,S,p⟩ | ⟨y,m,t,a,o,B,I,p⟩
   .rw [hY] at p;exact .inl ⟨L,S,(cm rfl e).trans p⟩
   .rw [hY] at p;refine .inr ⟨.int i::y,m,t,a,o,by simp [B],fun z d=>?_,?_⟩
    .rcases av.mp d with rfl | d
     .exact⟨i,J,rfl⟩
     .exact I z d
    .rw [show w++.int i::y=w++[.int i]++y by simp];exact (cm rfl e).trans p
theorem He {T t:List P}{R:Str}{F:P} (Q:lu R T t F) {K:List bC}{V:List P} (N:kR (more F) K V) {s:List bC}{f:List P} (G:Giv s f) (O:s.length≤99) (h p z A r:P) (x:Str) (c H:List P) (d u j l y q:Option D) :
  ∃g b,Giv g b/\eA (gi (bV (aE cW (eV (ac ar (vv 2) (vi 3))) (eV (vC (.non))))) (bV (aE ou (eV (ac ar (ac ar (vv 2) (vi 3)) (vi 2))) (eV (vt ""))))) (eY (aa 4) (ac ar (ac ar (vv 2) (vi 3)) (vi 2)) (ac ar (vv 3) (vt "it"))) eJ [qp h,qp p,qp (eN x z A F c H r),qp (.dct K V),some (.ref 0),d,u,j,l,y,q] [.dct s (f.map .p)]=some (.nx,[qp h,qp p,qp (eN x z A F c H r),qp (.dct K V),some (.ref 0),d,u,j,l,y,q],[.dct g (b.map .p)]):=by
 rcases Q with rfl | ⟨m,a,n,w,_,_,_,_,_,_,rfl⟩
 .exact⟨s,f,G,by simp [oh,cW,dO]⟩
 .by_cases E:n=""
  .exact⟨s,f,G,by simp [oh,cW,dO,E]⟩
  .obtain⟨i,_,I⟩:=N "it" (by simp [more]);obtain⟨B,C,J,U,e⟩:=vK (o:=aa 4) (k:=ac ar (ac ar (vv 2) (vi 3)) (vi 2)) (v:=ac ar (vv 3) (vt "it")) (L:=[qp h,qp p,qp (eN x z A (.tup [.str m,.str a,.str n,.str w]) c H r),qp (.dct K V),some (.ref 0),d,u,j,l,y,q]) (S:=[.dct s (f.map .p)]) G O (i:=i) (n:=[.dct s (f.map .p)]) (x:=n) (by simp [I]) rfl (by simp [oh]) rfl;refine⟨B,C,J,?_⟩;rw [ip];have M:(gi (bV (aE cW (eV (ac ar (vv 2) (vi 3))) (eV (vC (.non))))) (bV (aE ou (eV (ac ar (ac ar (vv 2) (vi 3)) (vi 2))) (eV (vt ""))))) [qp h,qp p,qp (eN x z A (.tup [.str m,.str a,.str n,.str w]) c H r),qp (.dct K V),some (.ref 0),d,u,j,l,y,q] [.dct s (f.map .p)]=some (true,[.dct s (f.map .p)]):=by simp [oh,cW,dO,E]
   rw [M];exact e
theorem Hd {n:Nat} (hn:6≤n) {rs:List P}{z:Str}{q:Nat}{m c a p:List P} (U:Fam rs z q m c a p) {N:List P} (hc:CellsOk c N) {x:Str}{G J l:P}{d I:List P}{u:P} (Y:Stp z m c a rs G J l d I u) {K:List bC}{V:List P} (he:kR (o7 c++more l) K V) :
  ∃j:P,(j=.non\/∃H,CellsOk c H/\j=.tup H)/\pureOf (Ph n "cells_behind") [jf z q m c a p,.tup N,eN x G J l d I u,.dct K V]=some j:=by
 obtain⟨n,rfl⟩:=fM (n:=n) (by first | assumption | lia);have hN:∀x ∈ o7 c++more l,ke x:=fun x hx=>(dh.mp hx).elim (qy U.hce.1 x) (qA l x);have hcl:=Y.cl;have hc3:=U.cl;have hcn:=hc.1;let A:List (Option D):=[qp (jf z q m c a p),qp (.tup N),qp (eN x G J l d I u),qp (.dct K V),some (.ref 0)]
 let Inv:Nat->Lc->aF->Prop:=fun i L S=>∃(s:List bC) (f:List P) (C E:Option D),Giv s f/\s.length≤i/\L=A++[C,E,none,none,none,none]/\S=[.dct s (f.map .p)]
 obtain⟨L',S',O,s,f,C,E,W,Z,rfl,rfl⟩:=cw (g:=bn [ak 5,ak 6]) (b:=dQ (Ph (n+1)) (Ph n)) (Inv:=Inv) (s:=d) (k:=0) (L:=A++[none,none,none,none,none,none]) (S:=[.dct [] []]) (fun i v L S hv hI=>by obtain⟨s,f,C,E,W,Z,rfl,rfl⟩:=hI;have hi:=bD hv;obtain⟨y,t,_,ht,rfl⟩:=Y.ch v (bY hv);obtain⟨r,er⟩:=mY hN he ht (n:=n+1) (by lia);obtain⟨Q,R,T,h2,e⟩:=vK (o:=aa 4) (k:=vv 5) (v:=ah (pureOf (Ph (n+1) "value_of")) (v2 (vv 6) (vv 3))) (L:=A++[qs y,qp t,none,none,none,none]) (S:=[.dct s (f.map .p)]) W (by lia) (i:=r) (n:=[.dct s (f.map .p)]) (by simp [A,er]) rfl rfl rfl;exact⟨_,_,_,rfl,e,Q,R,_,_,T,by lia,rfl,rfl⟩) ⟨[],[],none,none,⟨by simp,rfl,by simp,fun k v h=>by cases h⟩,by simp,rfl,rfl⟩
 simp only [A,p6,gX] at O;obtain⟨gk2,gv2,X,e2⟩:=He Y.htk (fun x hx=>he x (fP _ hx)) W (by lia) (jf z q m c a p) (.tup N) G J u x d I C E none none none none;have B:=wq (E:=Ph (n+1)) (C:=Ph n) (b:=jf z q m c a p) (st:=eN x G J l d I u) (A:=.dct K V) hc.2 X C E (l:=c) (k:=0) U.hce.1 (by lia) (.inl rfl) (w:=[]) rfl (by lia) none none none;rw [show ((0:Nat):Int)=0 from rfl] at B;rcases B with ⟨L',S',F⟩ | ⟨M,q8',q9',q10',o,T,h2,F⟩
 .refine⟨.non,.inl rfl,?_⟩;rw [cR,ag];simp only [List.map_nil] at F;simp [-ip,bH,lU,BY,O,e2,EL,F]
 .refine⟨.tup M,.inr ⟨M,⟨T,h2⟩,rfl⟩,?_⟩;rw [cR,ag];simp only [List.map_nil,gX] at F;have t1:toP 9 (.ref 1) [o,.lst (M.map .p)]=some (.lst M,[o,.fz (.lst M)]):=fY rfl;simp [-ip,bH,lU,BY,O,e2,EL,F,t1,d5]
end My
namespace My
open PySem L2 Ev
noncomputable def lS (B:BD) (t:Nat) (y:P):Prop:=∃s r,y=.tup [.tup s,.tup r]/\s.length≤t/\(∀a ∈ s,qI a)/\bN B r
structure GS (B:BD) (K:List bC) (V:List P) extends GC B where
 kv:Nat
 hkv:b≤kv
 hk:S0[kv]? = some (.fz (.dct K V))
noncomputable abbrev FL (i k r:Nat) (hd t m l:P) (d f b c q h:Option D) (x a e s n:Option D):Lc:=[some (.ref i),qp hd,qp t,some (.ref k),qp m,qp l,d,f,b,c,q,h,some (.ref r),x,a,e,s,n]
theorem K3 {B:BD} (I:Pln B.fams B.roads B.wishes) (Y:Places B) {n:Nat} (j:3≤n) {K:List bC}{V:List P} (hd v:Int) {m:Str} (hm:PyData.strOk m=true) {t:Nat} (ht:t≤10) {s:List P} (has:s.length≤t) (T:∀a ∈ s,qI a) {r:List P} (hr:bN B r) (C A l:P) (o H F q:Option D) {y:P} (hy:B8 y) :
  ∃Z:List P,Z.length≤1/\(∀z ∈ Z,lS B (t+1) z)/\∀(G:GS B K V) (L:Lc) (S:aF) (c:List P),(∃d u i x,L=FL G.i G.kv G.r (.int hd) C A l d o H F q (qp (.tup [.str m,.int v])) (qp (.tup s)) (qp (.tup r)) u i x)->Fr G.b G.S0 S->S[G.r]? = some (.lst (c.map .p))->c.length+1≤1000 ->
   ∃L1 L2 p,bn [ak 15,ak 16] y L=some L1/\d8 (Ph n) (Ph (n-1)) L1 S=some (.nx,L2,p)/\(∃d u i x,L2=FL G.i G.kv G.r (.int hd) C A l d o H F q (qp (.tup [.str m,.int v])) (qp (.tup s)) (qp (.tup r)) u i x)/\Fr G.b G.S0 p/\p[G.r]? = some (.lst ((c++Z).map .p)):=by
 obtain⟨k,E,rfl,hbl,U,X⟩:=hy;obtain⟨ans,Q,ep⟩:=AR I Y j hd v hm X hr;have N:=gq (xs:=s) (m:=k) (by lia);rcases Q with rfl | ⟨f,W,rfl⟩
 .refine⟨[],by simp,fun _ h=>(by cases h),fun G L S c J O R hM=>?_⟩;obtain⟨d,u,i,x,rfl⟩:=J;obtain⟨p,e,w⟩:=wr (b:=G.b) (g:=Ph n "posted") (q:=ab (aa 0) (ab (aa 14) (ab (aa 1) (ab (aa 16) (ab (aa 11) aY))))) (L:=FL G.i G.kv G.r (.int hd) C A l d o H F q (qp (.tup [.str m,.int v])) (qp (.tup s)) (qp (.tup r)) (qp (.tup k)) (ql E) x) (S:=S) (l:=[.ref G.i,.p (.tup r),.p (.int hd),.p (.lst E),.p (.tup [.str m,.int v])]) rfl (ep G.b G.i S (G.bd.fr O)) (Fr.refl _ _);refine⟨FL G.i G.kv G.r (.int hd) C A l d o H F q (qp (.tup [.str m,.int v])) (qp (.tup s)) (qp (.tup r)) (qp (.tup k)) (ql E) x,FL G.i G.kv G.r (.int hd) C A l d o H F q (qp (.tup [.str m,.int v])) (qp (.tup s)) (qp (.tup r)) (qp (.tup k)) (ql E) (qp .non),p,rfl,?_,⟨_,_,_,_,rfl⟩,O.trans w,?_⟩
  .refine (aB (e:=FL G.i G.kv G.r (.int hd) C A l d o H F q (qp (.tup [.str m,.int v])) (qp (.tup s)) (qp (.tup r)) (qp (.tup k)) (ql E) (qp .non)) (b:=p) ?_).trans ?_
   .rw [dI,s_,e];rfl
   .simp [cW,dO]
  .rw [List.append_nil];exact w.hi _ _ (aQ G.le G.hr) R
 .refine⟨[.tup [.tup (s++k),.tup f]],by simp,fun z hz=>⟨s++k,f,by simpa using hz,by rw [cV];lia,fun a ha=>(dh.mp ha).elim (T a) (U a),W⟩,fun G L S c J O R hM=>?_⟩;obtain⟨d,u,i,x,rfl⟩:=J;obtain⟨p,e,w⟩:=wr (b:=G.b) (g:=Ph n "posted") (q:=ab (aa 0) (ab (aa 14) (ab (aa 1) (ab (aa 16) (ab (aa 11) aY))))) (L:=FL G.i G.kv G.r (.int hd) C A l d o H F q (qp (.tup [.str m,.int v])) (qp (.tup s)) (qp (.tup r)) (qp (.tup k)) (ql E) x) (S:=S) (l:=[.ref G.i,.p (.tup r),.p (.int hd),.p (.lst E),.p (.tup [.str m,.int v])]) rfl (ep G.b G.i S (G.bd.fr O)) (Fr.refl _ _);have M:=w.hi _ _ (aQ G.le G.hr) R;refine⟨FL G.i G.kv G.r (.int hd) C A l d o H F q (qp (.tup [.str m,.int v])) (qp (.tup s)) (qp (.tup r)) (qp (.tup k)) (ql E) x,FL G.i G.kv G.r (.int hd) C A l d o H F q (qp (.tup [.str m,.int v])) (qp (.tup s)) (qp (.tup r)) (qp (.tup k)) (ql E) (qp (.tup f)),p.set G.r (.lst ((c++[P.tup [.tup (s++k),.tup f]]).map .p)),rfl,?_,⟨_,_,_,_,rfl⟩,(O.trans w).set G.le G.hr _,i4 M⟩;refine (aB (e:=FL G.i G.kv G.r (.int hd) C A l d o H F q (qp (.tup [.str m,.int v])) (qp (.tup s)) (qp (.tup r)) (qp (.tup k)) (ql E) (qp (.tup f))) (b:=p) ?_).trans ?_
  .rw [dI,s_,e];rfl
  .rw [ip];have hc:(bV (aE cW (aa 17) (eV (vC .non)))) (FL G.i G.kv G.r (.int hd) C A l d o H F q (qp (.tup [.str m,.int v])) (qp (.tup s)) (qp (.tup r)) (qp (.tup k)) (ql E) (qp (.tup f))) p=some (true,p):=by simp [cW,dO]
   rw [hc,aA,if_pos rfl];exact rQ rfl M (by simp [N]) M (by lia)
theorem K2 {B:BD} (I:Pln B.fams B.roads B.wishes) (Y:Places B) {n:Nat} (j:4≤n) {K:List bC}{V:List P}{hd:Nat}{J:Str}{C:Nat}{u p A H:List P} (O:Fam B.roads J C u p A H) (T:(bf B.fams)[hd]? = some (jf J C u p A H)) {l:List P} (hw:l.length=A.length) (U:∀w ∈ l,qI w) {a h:Str}
  (hc:(a="who"/\P.str h ∈ A)\/((a="all"\/a="any")/\∃r ∈ B.roads,rA r=J/\h=rB r)) (v:Int) {m:Str} (hm:PyData.strOk m=true) {t:Nat} (ht:t≤10) (N E:P) (o F:Option D) {W:List P} (hW:∀y ∈ W,lS B t y) :
  ∃ys:List P,ys.length≤4 * W.length/\(∀z ∈ ys,lS B (t+1) z)/\∀(G:GS B K V) (L:Lc) (S:aF) (d:List P),(∃i k f q e s,L=FL G.i G.kv G.r (.int (hd:Int)) N E (.tup l) i o F (qs a) (qs h) (qp (.tup [.str m,.int v])) k f q e s)->Fr G.b G.S0 S->S[G.r]? = some (.lst (d.map .p))->d.length+4 * W.length≤1000 ->
   ∃L' R,br (bn [ak 13,ak 14]) (d7 (Ph n) (Ph (n-1))) W L S=some (.nx,L',R)/\(∃i k f q e s,L'=FL G.i G.kv G.r (.int (hd:Int)) N E (.tup l) i o F (qs a) (qs h) (qp (.tup [.str m,.int v])) k f q e s)/\Fr G.b G.S0 R/\R[G.r]? = some (.lst ((d++ys).map .p)):=by
 obtain⟨tg,h1,h2,h3⟩:=tg_ok I j O T hw U hc;refine de (j:=GS B K V) (c:=4) (M:=1000) (Sp:=fun G S=>Fr G.b G.S0 S) (r:=fun G=>G.r) (Q:=lS B (t+1)) (p:=fun G L=>∃i k f q e s,L=FL G.i G.kv G.r (.int (hd:Int)) N E (.tup l) i o F (qs a) (qs h) (qp (.tup [.str m,.int v])) k f q e s) (fun x hx=>?_);obtain⟨as,rs,rfl,ha1,ha2,hr⟩:=hW x hx;obtain⟨ys,k1,k2,k3⟩:=de (j:=GS B K V) (c:=1) (M:=1000) (g:=bn [ak 15,ak 16]) (b:=d8 (Ph n) (Ph (n-1))) (a:=tg) (Sp:=fun G S=>Fr G.b G.S0 S) (r:=fun G=>G.r) (Q:=lS B (t+1)) (p:=fun G L=>∃i q e s,L=FL G.i G.kv G.r (.int (hd:Int)) N E (.tup l) i o F (qs a) (qs h) (qp (.tup [.str m,.int v])) (qp (.tup as)) (qp (.tup rs)) q e s)
  (fun y hy=>K3 I Y (by lia) (hd:Int) v hm ht ha1 ha2 hr N E (.tup l) o F (qs a) (qs h) (h2 y hy))
 refine⟨ys,by lia,k2,fun G L S d hLp fr hS hM=>?_⟩;obtain⟨i,k,f,q,e,s,rfl⟩:=hLp;obtain⟨S1,e1,fr1⟩:=h3 G.b G.i S (G.bd.fr fr);obtain⟨S2,e2,X⟩:=wr (b:=G.b) (g:=Ph n "targets_of") (q:=ab (aa 0) (ab (aa 1) (ab (aa 9) (ab (aa 10) (ab (aa 5) aY))))) (L:=FL G.i G.kv G.r (.int (hd:Int)) N E (.tup l) i o F (qs a) (qs h) (qp (.tup [.str m,.int v])) (qp (.tup as)) (qp (.tup rs)) q e s) (S:=S) (l:=[.ref G.i,.p (.int (hd:Int)),.p (.str a),.p (.str h),.p (.tup l)]) rfl e1 fr1;obtain⟨L',R,e3,hL',fr3,h4⟩:=k3 G _ S2 d ⟨i,q,e,s,rfl⟩ (fr.trans X) (X.hi _ _ (aQ G.le G.hr) hS) (by lia);obtain⟨d6',Z,q16',q17',rfl⟩:=hL';refine⟨FL G.i G.kv G.r (.int (hd:Int)) N E (.tup l) i o F (qs a) (qs h) (qp (.tup [.str m,.int v])) (qp (.tup as)) (qp (.tup rs)) q e s,FL G.i G.kv G.r (.int (hd:Int)) N E (.tup l) d6' o F (qs a) (qs h) (qp (.tup [.str m,.int v])) (qp (.tup as)) (qp (.tup rs)) Z q16' q17',R,rfl,?_,⟨_,_,_,_,_,_,rfl⟩,fr3,h4⟩;unfold d7;rw [eO,i',e2];exact e3
theorem x4 (r:Fr b x S) (e:b≤x.length) (h:my x S d W):∃a,toP 9 d (S++[.lst []])=some (.lst W,a)/\Fr b x a/\a[S.length]? = some (.lst []):=by
 have f:=r.trans (Fr.app b S [.lst []]);rcases h with rfl | ⟨k,s,rfl,h⟩
 .exact⟨_,by simp,f,iH _ _⟩
 .have l:=h.lt;refine⟨_,(h.fr (Fr.app b S [.lst []])).frz,f.set e s _,?_⟩;rw [bx (by lia)];exact iH _ _
section
variable {B:BD} (I:Pln B.fams B.roads B.wishes) (Y:Places B) {n:Nat} (j:5≤n) {K:List bC}{V:List P}{hd:Nat}{J:Str}{C:Nat}{u p A H:List P} (O:Fam B.roads J C u p A H) (T:(bf B.fams)[hd]? = some (jf J C u p A H)) {l:List P} (hw:l.length=A.length) (U:∀w ∈ l,qI w) {N:List P} (q:∀x ∈ N,ke x) (a:kR N K V)
include I Y j O T hw U q a
theorem Ka (s Q:P):∀{o:List P},(∀c ∈ o,nA J B.roads A N c)->∀{t:Nat},t+o.length≤10->∀{W:List P},(∀y ∈ W,lS B t y)->4 ^ o.length * W.length≤900 ->
  ∃ys:List P,ys.length≤4 ^ o.length * W.length/\(∀y ∈ ys,lS B (t+o.length) y)/\∀(b i:Nat) (j S:aF) (d:Nat) (z:D) (q7 q8 q9 Z H g h e k f p:Option D),Bd B b i j->b≤d->j[d]? = some (.fz (.dct K V))->Fr b j S->my j S z W ->
   ∃L' S' d',br (bn [ak 7,ak 8,ak 9,ak 10]) (d6 (Ph n) (Ph (n-1))) o [some (.ref i),qi (hd:Int),qp s,some (.ref d),qp Q,qp (.tup l),some z,q7,q8,q9,Z,H,g,h,e,k,f,p] S=some (.nx,L',S')/\L'[6]? = some (some d')/\Fr b j S'/\my j S' d' ys
 | [],_,t,_,W,hW,_=>⟨W,by simp,by simpa using hW,fun b i j S d z q7 q8 q9 Z H g h e k f p _ _ _ fr ha=>⟨_,S,z,rfl,rfl,fr,ha⟩⟩
 | c::o,E,t,ht,W,hW,R=>by
  simp only [bt] at ht;rw [bt,Nat.pow_succ,Nat.mul_assoc] at R;have h4:4 * W.length≤900:=aQ (Nat.le_mul_of_pos_left _ (Nat.pow_pos (by decide))) R;obtain⟨m,tr,u,w,hm,_,hsum,hcw,rfl⟩:=E c List.mem_cons_self;obtain⟨v,ev⟩:=mY q a hsum (n:=n) (by lia);obtain⟨ys,h1,h2,h3⟩:=K2 I Y (n:=n) (by lia) (K:=K) (V:=V) O T hw U hcw v hm (t:=t) (by lia) s Q (qs m) (qp tr) hW;obtain⟨zs,k1,k2,k3⟩:=Ka s Q (o:=o) (fun x hx=>E x (aZ _ hx)) (t:=t+1) (by lia) (W:=ys) h2 (aQ (Nat.mul_le_mul_left _ h1) R);refine⟨zs,?_,fun y hy=>by rw [bt,show t+(o.length+1)=t+1+o.length by lia];exact k2 y hy,fun b i j S d z q7 q8 q9 Z H g h e k f p hB X hk fr ha=>?_⟩
  .rw [bt,Nat.pow_succ,Nat.mul_assoc];exact aQ k1 (Nat.mul_le_mul_left _ h1)
  .obtain⟨S1,e1,fr1,hS1⟩:=x4 fr hB.le ha;obtain⟨L2,S2,e2,⟨d6',F,C,G,L,M,rfl⟩,fr2,hS2⟩:=h3 { b:=b,i:=i,S0:=j,r:=S.length,bd:=hB,hr:=fr.len,kv:=d,hkv:=X,hk:=hk } (FL i d S.length (.int (hd:Int)) s Q (.tup l) (some z) (qs m) (qp tr) (qs u) (qs w) (qp (.tup [.str m,.int v])) h e k f p) S1 [] ⟨_,_,_,_,_,_,rfl⟩ fr1 hS1 (by simp;lia);obtain⟨L',S',d',e3,h5,fr3,ha3⟩:=k3 b i j S2 d (.ref S.length) (qs m) (qp tr) (qs u) (qs w) (qp (.tup [.str m,.int v])) (some (.ref S.length)) F C G L M hB X hk fr2 (.inr ⟨S.length,fr.len,rfl,.inl hS2⟩);refine⟨L',S',d',?_,h5,fr3,ha3⟩;refine (cm (L1:=[some (.ref i),qi (hd:Int),qp s,some (.ref d),qp Q,qp (.tup l),some z,qs m,qp tr,qs u,qs w,H,g,h,e,k,f,p]) rfl ?_).trans e3;have tv:toP 9 (.ref d) S=some (.dct K V,S):=by
    have:=fr.hi _ _ X hk;simp [toP,this]
   unfold d6;refine (aB (e:=[some (.ref i),qi (hd:Int),qp s,some (.ref d),qp Q,qp (.tup l),some z,qs m,qp tr,qs u,qs w,qp (.tup [.str m,.int v]),g,h,e,k,f,p]) (b:=S) ?_).trans ?_
   .simp [tv,ev]
   refine (aB (e:=FL i d S.length (.int (hd:Int)) s Q (.tup l) (some z) (qs m) (qp tr) (qs u) (qs w) (qp (.tup [.str m,.int v])) h e k f p) (b:=S++[.lst []]) ?_).trans ?_
   .simp
   refine (aB (e:=FL i d S.length (.int (hd:Int)) s Q (.tup l) d6' (qs m) (qp tr) (qs u) (qs w) (qp (.tup [.str m,.int v])) F C G L M) (b:=S2) ?_).trans ?_
   .rw [eO,i'];show aH (aH (toP 9 z (S++[.lst []])) _) _=_;rw [e1];exact e2
   .rfl
theorem FI (E:∀c ∈ f,nA J B.roads A N c) (m:f.length≤3) (L:bN B o) :
  ∃s:List P,s.length≤64/\(∀y ∈ s,lS B 3 y)/\∀(b i:Nat) (S:aF) (k:Nat),Bd B b i S->b≤k->S[k]? = some (.fz (.dct K V)) ->
   ∃d x,Ph (n+1) "sendings" [.ref i,.p (.int (hd:Int)),.p (.lst f),.ref k,.p (.tup o),.p (.tup l)] S=some (d,x)/\Fr b S x/\my S x d s:=by
 have Z:4 ^ f.length≤64:=by have:=Nat.pow_le_pow_right (show 0 < 4 by decide) m;simpa using this
 obtain⟨s,g,z,H⟩:=Ka I Y j O T hw U q a (.lst f) (.tup o) E (t:=0) (by lia) (W:=[.tup [.tup [],.tup o]]) (fun y r=>⟨[],o,by simpa using r,by simp,fun _ h=>(by cases h),L⟩) (by simp;lia);simp only [List.length_singleton,Nat.mul_one] at g;refine⟨s,by lia,fun y r=>?_,fun b i S k C v G=>?_⟩
 .obtain⟨p,R,e,k1,M,Q⟩:=z y r;exact⟨p,R,e,by lia,M,Q⟩
 .obtain⟨X,x,w,e,F,u,D⟩:=H b i S S k (.p (.lst [.tup [.tup [],.tup o]])) none none none none none none none none none none none C v G (Fr.refl _ _) (.inl rfl);refine⟨w,x,?_,u,D⟩;obtain⟨n,rfl⟩:=Ln (n:=n) (by first | assumption | lia);rw [f_];simp only [Nat.add_sub_cancel] at e;simp [cI,dL,e,F]
end
noncomputable def Eo (f x:P):Prop:=∃J C u p A H,f=jf J C u p A H/\∃(r:Nat) (c l:List P),x=.tup [.int (r:Int),.tup c,.tup l]/\r < u.length/\CellsOk p c/\l.length=A.length/\∀w ∈ l,qI w
structure StL (B:BD) (hs rds:List P):Prop where
 hl:hs.length=(bf B.fams).length
 hh:∀(k:Nat) f x,(bf B.fams)[k]? = some f->hs[k]? = some x->Eo f x
 hr:bN B rds
noncomputable def kP (B:BD) (st:P):Prop:=∃E o,st=.tup [.tup E,.tup o]/\StL B E o
noncomputable def ja (B:BD) (y:P):Prop:=∃h st,y=.tup [.tup h,st]/\(∀d ∈ h,cc 2 d=true)/\kP B st
noncomputable abbrev SL (i:Nat) (st hd step y f r:P) (n k b q h x a e s:Option D):Lc:=[some (.ref i),qp st,qp hd,qp step,qp y,qp f,qp r,n,k,b,q,h,x,a,e,s]
theorem D8 {p:List P}{K:List bC}{V:List P} (a:kR (o7 p) K V) {n:List bC}{f:List P}{z:Int} (c:z.natAbs≤999) (h:∀k,bI k n f=if (.inr "it":bC)=k then some (.int z) else bI k K V):kR (o7 p++[.str "it"]) n f:=fun x s=>by
 by_cases q:("it":Str)=x
 .exact⟨z,c,by rw [h,if_pos (by rw [q])]⟩
 .rcases dh.mp s with s | s
  .obtain⟨i,b,e⟩:=a x s;exact⟨i,b,by rw [h,if_neg fun w=>q (iV w)];exact e⟩
  .exact absurd (P.str.inj (List.mem_singleton.mp s)).symm q
variable {B:BD}{n:Nat}{hd:Nat}{J:Str}{C:Nat}{u:List P}{p:List P}{A:List P}{H:List P}{o:List P}
theorem FH (I:Pln B.fams B.roads B.wishes) (j:2≤n) (O:Fam B.roads J C u p A H) (U:CellsOk p d) (Y:bN B o) (ht:lu J B.roads A tk) (hy:(tk=.non/\y=.non)\/(tk≠.non/\t8 B o hd y)) :
  ∃(K:List bC) (V G:List P),kR (o7 p++more tk) K V/\bN B G/\∀(b i:Nat) (S:aF) (st step f r:P) (g F t q x a c:Option D),Bd B b i S->∃T,
   eA (bV (aE cW (aa 4) (eV (vC (.non))))) (ae (au 11 (uW (dD (aT Att) (aa 0) "places") (v2 (ac ar (vv 4) (vi 0)) (vv 2))))
    (ae (eY (aa 10) (vt "it") (ac ar (ac ar (ac ar (vv 9) (vv 11)) (ac ar (vv 4) (vi 1))) (vi 1)))
    (au 9 (eV (ah (pureOf (Ph n "replaced")) (v3 (vv 9) (vv 11) (ah (pureOf (Ph n "without")) (v2 (ac ar (vv 9) (vv 11)) (ac ar (vv 4) (vi 1)))))))))) eJ
    (SL i st (.int (hd:Int)) step y f r g F (qp (.tup o)) (some (.ref S.length)) t q x a c) (S++[.dct (cH p) (d.map .p)])=some (.nx,SL i st (.int (hd:Int)) step y f r g F (qp (.tup G)) (some (.ref S.length)) T q x a c,S++[.dct K (V.map .p)]):=by
 have E:=qE U;rcases hy with ⟨rfl,rfl⟩ | ⟨R,s,v,k,L,rfl,hg,hk,Q,w,Z⟩
 .exact⟨cH p,d,o,by simpa [more] using E,Y,fun b i S st step f r g F t q x a c hB=>⟨t,by simp [cW,dO]⟩⟩
 .have hm:more tk=[.str "it"]:=by
   cases tk with
   | non=>exact absurd rfl R
   | _=>rfl
  have hls3:=w.1;have M:L[v]? = some L[v]:=cG Z;obtain⟨m,z,_,hz,hzl⟩:=w.2 L[v] (dP _);rw [hzl] at M;have X:(cH p).length=d.length:=by rw [U.1];simp [cH]
  obtain⟨K,V,e,h1,h2,h3,h4,h5⟩:=qW (.inr "it") (.int z) (cH p) d (i_ O.hce) X;have ew:=BU j (xs:=L) (k:=v) (by lia);have hpl:=rS I;have hrl:=Y.1;have er:=nj j (xs:=o) (k:=k) hk (by lia) (.tup (L.eraseIdx v));have hcl:=O.cl;have N:(cH p).length≤1000000:=by have:=U.1;lia
  refine⟨K,V,o.set k (.tup (L.eraseIdx v)),by rw [hm];exact D8 E hz h5,Y.set k ⟨aQ (List.length_eraseIdx_le ..) w.1,fun l h=>w.2 l (List.mem_of_mem_eraseIdx h)⟩,fun b i S st step f r g F t q x a c hB=>⟨qi (k:Int),?_⟩⟩;obtain⟨jh,jp,jl,jm,mk,mv,h⟩:=hB.fr (Fr.app b S [.dct (cH p) (d.map .p)]);rw [ip];have W:(bV (aE cW (aa 4) (eV (vC (.non))))) (SL i st (.int (hd:Int)) step (.tup [.int (s:Int),.int (v:Int)]) f r g F (qp (.tup o)) (some (.ref S.length)) t q x a c) (S++[.dct (cH p) (d.map .p)])=some (true,S++[.dct (cH p) (d.map .p)]):=by simp [cW,dO]
  rw [W,aA,if_pos rfl];refine (aB (e:=SL i st (.int (hd:Int)) step (.tup [.int (s:Int),.int (v:Int)]) f r g F (qp (.tup o)) (some (.ref S.length)) (qi (k:Int)) q x a c) (b:=S++[.dct (cH p) (d.map .p)]) ?_).trans ?_
  .rw [dI,we,h.places rfl];simp [iq,h.pl,ck,bZ,hg]
  refine (aB (e:=SL i st (.int (hd:Int)) step (.tup [.int (s:Int),.int (v:Int)]) f r g F (qp (.tup o)) (some (.ref S.length)) (qi (k:Int)) q x a c) (b:=S++[.dct K (V.map .p)]) ?_).trans ?_
  .have e2:on (aa 10) (vt "it") (ac ar (ac ar (ac ar (vv 9) (vv 11)) (ac ar (vv 4) (vi 1))) (vi 1)) (SL i st (.int (hd:Int)) step (.tup [.int (s:Int),.int (v:Int)]) f r g F (qp (.tup o)) (some (.ref S.length)) (qi (k:Int)) q x a c) (S++[.dct (cH p) (d.map .p)])=some (.nx,SL i st (.int (hd:Int)) step (.tup [.int (s:Int),.int (v:Int)]) f r g F (qp (.tup o)) (some (.ref S.length)) (qi (k:Int)) q x a c,S++[.dct K (V.map .p)]):=by
    simp [on,aX Q,aX M,jD,bZ,i_ O.hce,N,e]
   unfold eY;rw [e2]
  .simp [aX Q,ew,er]
variable {E:List P}
theorem CU (h:StL B E o) (T:(bf B.fams)[hd]? = some (jf J C u p A H)) (s:r < u.length) (n:CellsOk p c) (b:l.length=A.length) (m:∀w ∈ l,qI w) (t:bN B d):StL B (E.set hd (.tup [.int (r:Int),.tup c,.tup l])) d:=by
 refine⟨by rw [eM];exact h.hl,fun k f x e a=>?_,t⟩;by_cases q:hd=k
 .subst q;rw [T] at e;cases e;rw [dN (by rw [h.hl];exact bD T)] at a;cases a;exact⟨J,C,u,p,A,H,rfl,r,c,l,rfl,s,n,b,m⟩
 .rw [bx q] at a;exact h.hh k f x e a
theorem FF (I:Pln B.fams B.roads B.wishes) (Y:Places B) (j:8≤n) (O:Fam B.roads J C u p A H) (T:(bf B.fams)[hd]? = some (jf J C u p A H)) (hS:StL B E o) (hx:PyData.strOk x=true) (hSt:Stp J u p A B.roads rm wh tk chg sn rm2) (hy:(tk=.non/\y=.non)\/(tk≠.non/\t8 B o hd y)) :
  ∃ys:List P,ys.length≤64/\(∀z ∈ ys,ja B z)/\∀(b i:Nat) (S:aF),Bd B b i S->∃d S',Ph n "step_ends" [.ref i,.p (.tup [.tup E,.tup o]),.p (.int (hd:Int)),.p (eN x rm wh tk chg sn rm2),.p y] S=some (d,S')/\Fr b S S'/\my S S' d ys:=by
 obtain⟨n,rfl⟩:=fM (n:=n) (by first | assumption | lia);have hhd:hd < E.length:=by rw [hS.hl];exact bD T
 have hhx:E[hd]? = some E[hd]:=cG hhd;obtain⟨_,_,_,_,_,_,hfe,r,cs,l,hxe,hr1,hcs,hwl,U⟩:=hS.hh hd _ _ T hhx;rw [hxe] at hhx;obtain⟨rfl,hce,rfl,rfl,rfl,rfl⟩:J=_/\C=_/\u=_/\p=_/\A=_/\H=_:=by simp only [P.tup.injEq,pK,P.str.injEq,P.int.injEq,P.lst.injEq,and_true] at hfe;obtain⟨m,b,c,d,e,f⟩:=hfe;exact⟨m,Int.ofNat.inj b,c,d,e,f⟩
 subst hce;obtain⟨K,V,F,a,hr',eit⟩:=FH I (n:=n+1) (by lia) O hcs hS.hr hSt.htk hy;obtain⟨ans,hans,ecb⟩:=Hd (n:=n+1) (by lia) O hcs (x:=x) hSt a;have hy2:(tk=.non/\y=.non)\/(tk≠.non/\zh y):=by
  rcases hy with h | ⟨h1,s,sp,_,_,e,_⟩
  .exact .inl h
  .exact .inr ⟨h1,s,sp,e⟩
 obtain⟨Z,hwl',hwi',ewb⟩:=Fb (n:=n+1) (by lia) O hwl U hSt.htk hy2;have q:∀x ∈ o7 p++more tk,ke x:=fun x hx=>(dh.mp hx).elim (qy O.hce.1 x) (qA tk x);obtain⟨W,hW1,hW2,esd⟩:=FI I Y (n:=n) (by lia) O T hwl' hwi' q a hSt.hsn hSt.sl hr';let st:P:=.tup [.tup E,.tup o]
 let step:P:=eN x rm wh tk chg sn rm2
 let v:P:=jf J C u p A H
 have pre:∀(b i:Nat) (S:aF),Bd B b i S->∃N,∀g:ES,(ae (au 5 (dm (mT Tb (Ph (n+1))) (aa 0) "family_of" (ab (aa 2) aY)))
   (ae (ni (bn [ak 6,ak 7,ak 8]) (ac ar (ac ar (vv 1) (vi 0)) (vv 2)))
   (ae (au 9 (eV (ac ar (vv 1) (vi 1))))
   (ae (au 10 (fR (Ph (n+1) "values_of") (ab (aa 5) (ab (aa 7) aY))))
   (ae (eA (bV (aE cW (aa 4) (eV (vC (.non))))) (ae (au 11 (uW (dD (aT Att) (aa 0) "places") (v2 (ac ar (vv 4) (vi 0)) (vv 2))))
    (ae (eY (aa 10) (vt "it") (ac ar (ac ar (ac ar (vv 9) (vv 11)) (ac ar (vv 4) (vi 1))) (vi 1)))
    (au 9 (eV (ah (pureOf (Ph (n+1) "replaced")) (v3 (vv 9) (vv 11) (ah (pureOf (Ph (n+1) "without")) (v2 (ac ar (vv 9) (vv 11)) (ac ar (vv 4) (vi 1)))))))))) eJ) g)))))
   [some (.ref i),qp st,qi (hd:Int),qp step,qp y,none,none,none,none,none,none,none,none,none,none,none] S=g (SL i st (.int (hd:Int)) step y v (.int (r:Int)) (qp (.tup cs)) (qp (.tup l)) (qp (.tup F)) (some (.ref S.length)) N none none none none) (S++[.dct K (V.map .p)]):=fun b i S hB=>by
  have ef:=uV (n:=n+1) (by lia) hB T;obtain⟨N,e5⟩:=eit b i S st step v (.int (r:Int)) (qp (.tup cs)) (qp (.tup l)) none none none none none hB;obtain⟨jh,jp,jl,jm,mk,mv,h⟩:=hB;refine⟨N,fun g=>?_⟩;refine (aB (e:=[some (.ref i),qp st,qi (hd:Int),qp step,qp y,qp v,none,none,none,none,none,none,none,none,none,none]) (b:=S) ?_).trans ?_
  .rw [dI,h.meth rfl (HR _) HW (l:=[.p (.int (hd:Int))]) (by simp),ef];rfl
  refine (aB (e:=SL i st (.int (hd:Int)) step y v (.int (r:Int)) (qp (.tup cs)) (qp (.tup l)) none none none none none none none) (b:=S) ?_).trans ?_
  .simp [st,aX hhx]
  refine (aB (e:=SL i st (.int (hd:Int)) step y v (.int (r:Int)) (qp (.tup cs)) (qp (.tup l)) (qp (.tup o)) none none none none none none) (b:=S) ?_).trans ?_
  .simp [st]
  refine (aB (e:=SL i st (.int (hd:Int)) step y v (.int (r:Int)) (qp (.tup cs)) (qp (.tup l)) (qp (.tup o)) (some (.ref S.length)) none none none none none) (b:=S++[.dct (cH p) (cs.map .p)]) ?_).trans ?_
  .rw [dI,xq];show aH (aH (some ([D.p v,D.p (.tup cs)],S)) _) _=_;rw [aA,vm (n:=n+1) (by lia) O hcs S];rfl
  exact aB e5
 have tv:∀S:aF,toP 9 (.ref S.length) (S++[.dct K (V.map .p)])=some (.dct K V,S++[.fz (.dct K V)]):=fun S=>by have:qD (toP 8) (V.map .p) (S++[.dct K (V.map .p)])=some (V,S++[.dct K (V.map .p)]):=ku ..;simp [toP,this]
 rcases hans with rfl | ⟨R,hcs',rfl⟩
 .refine⟨[],by simp,fun _ h=>(by cases h),fun b i S hB=>⟨.p (.lst []),S++[.fz (.dct K V)],?_,Fr.app _ _ _,.inl rfl⟩⟩;obtain⟨N,ep⟩:=pre b i S hB;rw [dW];show (match bL _ _ [some (.ref i),qp st,qi (hd:Int),qp step,qp y,none,none,none,none,none,none,none,none,none,none,none] S with | some (.rt d,_,S')=>some (d,S') | some (.nx,_,S')=>some (.p .non,S') | _=>none)=_;unfold bL;rw [ep];simp only [v,step] at ecb ⊢;simp [tv,ecb,rW,dO]
 .obtain⟨t,hj,ej⟩:=nE (xs:=u) (s:=rm2) (fun z hz=>(O.hro z hz).ok 19) hSt.h2;have h4:=gn I;have hsl:=hS.hl;have er:=nj (n:=n+1) (by lia) (xs:=E) (k:=hd) hhd (by lia) (.tup [.int (t:Int),.tup R,.tup Z]);have oy:cc 2 y=true:=by
   rcases hy2 with ⟨_,rfl⟩ | ⟨_,s,sp,rfl⟩
   .rfl
   .simp
  generalize hhs:E.set hd (.tup [.int (t:Int),.tup R,.tup Z])=X at er;have hst':∀{rs:List P},bN B rs->StL B X rs:=fun hr=>by rw [<- hhs];exact CU hS T hj hcs' hwl' hwi' hr
  obtain⟨ys,h1,h2,h3⟩:=de (j:=GC B) (g:=bn [ak 14,ak 15]) (b:=fo (Ph (n+1)) (Ph n)) (Sp:=fun G S=>Fr G.b G.S0 S) (r:=fun G=>G.r) (Q:=ja B) (c:=1) (M:=1000) (a:=W)
   (p:=fun G L=>∃N q14 q15,L=SL G.i st (.int (hd:Int)) step y v (.int (r:Int)) (qp (.tup R)) (qp (.tup Z)) (qp (.tup F)) (some (.ref G.S0.length)) N (qp (.tup X)) (some (.ref G.r)) q14 q15) (fun w hw=>by
    obtain⟨as,rs,rfl,ha1,ha2,hr⟩:=hW2 w hw;have oas:cc 2 (.tup as)=true:=bq.mpr fun m ha=>(ha2 m ha).ok 1;refine⟨[.tup [.tup [.str "step",.int (hd:Int),.str x,y,.tup as],.tup [.tup X,.tup rs]]],by simp,fun z hz=>⟨[.str "step",.int (hd:Int),.str x,y,.tup as],.tup [.tup X,.tup rs],by simpa using hz,fun d hd=>?_,X,rs,rfl,hst' hr⟩,fun G L S acc hLp fr hS' hM=>?_⟩
    .simp only [av,ey,ee] at hd;rcases hd with rfl | rfl | rfl | rfl | rfl
     .simp
     .simp
     .simpa using hx
     .exact oy
     .exact oas
    .obtain⟨N,q14,q15,rfl⟩:=hLp;refine⟨SL G.i st (.int (hd:Int)) step y v (.int (r:Int)) (qp (.tup R)) (qp (.tup Z)) (qp (.tup F)) (some (.ref G.S0.length)) N (qp (.tup X)) (some (.ref G.r)) (qp (.tup as)) (qp (.tup rs)),_,_,rfl,rQ rfl hS' (y:=.tup [.tup [.str "step",.int (hd:Int),.str x,y,.tup as],.tup [.tup X,.tup rs]]) ?_ hS' (by lia),⟨_,_,_,rfl⟩,fr.set G.le G.hr _,i4 hS'⟩;simp [step])
  refine⟨ys,by lia,h2,fun b i S hB=>?_⟩;obtain⟨N,ep⟩:=pre b i S hB;have frA:=Fr.app b S [.fz (.dct K V),.lst []];have hk0:(S++[SO.fz (.dct K V),.lst []])[S.length]? = some (.fz (.dct K V)):=by simp
  have hk1:(S++[SO.fz (.dct K V),.lst []])[S.length+1]? = some (.lst []):=by simp
  obtain⟨d1,S1,e1,fr1,an1⟩:=esd b i (S++[.fz (.dct K V),.lst []]) S.length (hB.fr frA) hB.le hk0;have hb1:b≤(S++[SO.fz (.dct K V),.lst []]).length:=aQ hB.le (by simp);obtain⟨S2,e2,fr2⟩:=n0 (b:=b) (g:=Ph (n+1) "sendings") (q:=ab (aa 0) (ab (aa 2) (ab (eV (ac ar (vv 3) (vi 5))) (ab (aa 10) (ab (aa 9) (ab (aa 8) aY)))))) (L:=SL i st (.int (hd:Int)) step y v (.int (r:Int)) (qp (.tup R)) (qp (.tup Z)) (qp (.tup F)) (some (.ref S.length)) N (qp (.tup X)) (some (.ref (S.length+1))) none none) (S:=S++[.fz (.dct K V),.lst []]) (l:=[.ref i,.p (.int (hd:Int)),.p (.lst sn),.ref S.length,.p (.tup F),.p (.tup Z)]) (by simp [step,FC]) e1 fr1 hb1 an1;obtain⟨L',S',e3,hL',fr3,h5⟩:=h3 ⟨b,i,S,S.length+1,hB,by lia⟩ _ S2 [] ⟨N,none,none,rfl⟩ (frA.trans fr2) (fr2.hi _ _ (aQ hB.le (by lia)) hk1) (by simp;lia);obtain⟨q11',q14',q15',rfl⟩:=hL';refine⟨.ref (S.length+1),S',?_,fr3,.inr ⟨S.length+1,by lia,rfl,.inl h5⟩⟩;rw [dW];show (match bL _ _ [some (.ref i),qp st,qi (hd:Int),qp step,qp y,none,none,none,none,none,none,none,none,none,none,none] S with | some (.rt d,_,S')=>some (d,S') | some (.nx,_,S')=>some (.p .non,S') | _=>none)=_;unfold bL;rw [ep];rw [aB (e:=SL i st (.int (hd:Int)) step y v (.int (r:Int)) (qp (.tup R)) (qp (.tup l)) (qp (.tup F)) (some (.ref S.length)) N none none none none) (b:=S++[.fz (.dct K V)]) (by simp [tv,v,step,ecb])];rw [aB (e:=SL i st (.int (hd:Int)) step y v (.int (r:Int)) (qp (.tup R)) (qp (.tup l)) (qp (.tup F)) (some (.ref S.length)) N none none none none) (b:=S++[.fz (.dct K V)]) (by simp [rW,dO])];rw [aB (e:=SL i st (.int (hd:Int)) step y v (.int (r:Int)) (qp (.tup R)) (qp (.tup Z)) (qp (.tup F)) (some (.ref S.length)) N none none none none) (b:=S++[.fz (.dct K V)]) (by simp [v,step,oh,ewb])];rw [aB (e:=SL i st (.int (hd:Int)) step y v (.int (r:Int)) (qp (.tup R)) (qp (.tup Z)) (qp (.tup F)) (some (.ref S.length)) N (qp (.tup X)) none none none) (b:=S++[.fz (.dct K V)]) (by simp [v,step,st,x9,Kk,ej,er])];rw [aB (e:=SL i st (.int (hd:Int)) step y v (.int (r:Int)) (qp (.tup R)) (qp (.tup Z)) (qp (.tup F)) (some (.ref S.length)) N (qp (.tup X)) (some (.ref (S.length+1))) none none) (b:=S++[.fz (.dct K V),.lst []]) (by simp)];rw [aB (e:=SL i st (.int (hd:Int)) step y v (.int (r:Int)) (qp (.tup R)) (qp (.tup Z)) (qp (.tup F)) (some (.ref S.length)) q11' (qp (.tup X)) (some (.ref (S.length+1))) q14' q15') (b:=S') (by rw [eO,i',e2];exact e3)];rfl
theorem Ca (I:Pln B.fams B.roads B.wishes) (Y:Places B) (j:12≤n) (T:(bf B.fams)[hd]? = some f) (hS:StL B E o) :
  ∃ys:List P,ys.length≤6144/\(∀z ∈ ys,ja B z)/\∀(b i:Nat) (S:aF),Bd B b i S->∃d F,Ph n "hand_ends" [.ref i,.p (.tup [.tup E,.tup o]),.p (.int (hd:Int))] S=some (d,F)/\Fr b S F/\my S F d ys:=by
 obtain⟨n,rfl⟩:=fM (n:=n) (by first | assumption | lia);obtain⟨J,C,u,p,A,H,O,rfl⟩:=jc I.hf (bY T);have hhd:hd < E.length:=by rw [hS.hl];exact bD T
 have hhx:E[hd]? = some E[hd]:=cG hhd;obtain⟨_,_,_,_,_,_,hfe,r,cs,l,hxe,hr1,hcs,hwl,U⟩:=hS.hh hd _ _ T hhx;rw [hxe] at hhx;obtain⟨rfl,hce,rfl,rfl,rfl,rfl⟩:J=_/\C=_/\u=_/\p=_/\A=_/\H=_:=by simp only [P.tup.injEq,pK,P.str.injEq,P.int.injEq,P.lst.injEq,and_true] at hfe;obtain⟨a,b,c,d,e,f⟩:=hfe;exact⟨a,Int.ofNat.inj b,c,d,e,f⟩
 subst hce;have ev:=wE (n:=n+1) (by lia) O hcs;have henv:=qE hcs;have hrg:u[r]? = some u[r]:=cG hr1;obtain⟨rn,hrn,hre⟩:=O.hro u[r] (dP _);rw [hre] at hrg;let t:Nat->Nat->Option D->Option D->Lc:=fun i r' q9 s=>[some (.ref i),qp (.tup [.tup E,.tup o]),qi (hd:Int),qp (jf J C u p A H),qi (r:Int),qp (.tup cs),qp (.tup l),qp (.dct (cH p) cs),some (.ref r'),q9,s]
 obtain⟨ys,h1,h2,h3⟩:=de (j:=GC B) (g:=ak 9) (b:=cU (Ph (n+1)) (Ph n)) (Sp:=fun G S=>Fr G.b G.S0 S) (r:=fun G=>G.r) (Q:=ja B) (c:=768) (M:=10000) (a:=H) (p:=fun G L=>∃q9 s,L=t G.i G.r q9 s) (fun x hx=>by
  obtain⟨X,v,Z,V,k,W,m,hsx,hSt,rfl⟩:=O.hst x hx;obtain⟨v,hrm,rfl⟩:=O.hro v hSt.h1;obtain⟨hb,eh⟩:=zv (qy O.hce.1) henv hSt.wh (n:=n+1) (by lia);have R:∀(i r':Nat) (s:Option D) (S:aF),(gi (bV (aE eC (eV (ac ar (vv 9) (vi 1))) (eV (ac ar (ac ar (vv 3) (vi 2)) (vv 4))))) (bT (eV (ah (pureOf (Ph (n+1) "holds")) (v2 (ac ar (vv 9) (vi 2)) (vv 7)))))) (t i r' (qp (eN X (.str v) Z V k W m)) s) S=some (decide (v=rn) && hb,S):=fun i r' s S=>by by_cases q:v=rn <;> simp [t,Kk,aX hrg,q,eh]
  cases hc:(decide (v=rn) && hb) with
  | false=>refine⟨[],by simp,fun _ h=>(by cases h),fun G L S acc N fr w hM=>?_⟩;obtain⟨q9,s,rfl⟩:=N;refine⟨t G.i G.r (qp (eN X (.str v) Z V k W m)) s,t G.i G.r (qp (eN X (.str v) Z V k W m)) s,S,rfl,?_,⟨_,_,rfl⟩,fr,by simpa using w⟩;unfold cU;rw [ip,R,hc];rfl
  | true=>
   obtain⟨ls,hl1,hl2,el⟩:=AA I Y (n:=n+1) (by lia) T hS.hr hSt.htk;obtain⟨ys,k1,k2,k3⟩:=de (j:=GC B) (g:=ak 10) (b:=fw (Ph (n+1)) (Ph n)) (Sp:=fun G S=>Fr G.b G.S0 S) (r:=fun G=>G.r) (Q:=ja B) (c:=64) (M:=10000) (a:=ls) (p:=fun G L=>∃s,L=t G.i G.r (qp (eN X (.str v) Z V k W m)) s) (fun y hy=>by obtain⟨es,m1,m2,m3⟩:=FF I Y (n:=n+1) (by lia) O T hS hsx hSt (hl2 y hy);refine⟨es,m1,m2,fun G L S acc N fr w hM=>?_⟩;obtain⟨s,rfl⟩:=N;obtain⟨d,S1,e1,fr1,an⟩:=m3 G.b G.i S (G.bd.fr fr);obtain⟨S2,e2,K⟩:=n0 (b:=G.b) (g:=Ph (n+1) "step_ends") (q:=ab (aa 0) (ab (aa 1) (ab (aa 2) (ab (aa 9) (ab (aa 10) aY))))) (L:=t G.i G.r (qp (eN X (.str v) Z V k W m)) (qp y)) (S:=S) (l:=[.ref G.i,.p (.tup [.tup E,.tup o]),.p (.int (hd:Int)),.p (eN X (.str v) Z V k W m),.p y]) rfl e1 fr1 (aQ G.le fr.len) an;have hS2:=K.hi _ _ (aQ G.le G.hr) w;exact⟨t G.i G.r (qp (eN X (.str v) Z V k W m)) (qp y),_,_,rfl,jy rfl w e2 hS2 (by lia),⟨_,rfl⟩,(fr.trans K).set G.le G.hr _,i4 hS2⟩)
   refine⟨ys,by lia,k2,fun G L S acc N fr w hM=>?_⟩;obtain⟨q9,s,rfl⟩:=N;obtain⟨d,S1,e1,fr1,an⟩:=el G.b G.i S (G.bd.fr fr);obtain⟨S2,e2,K⟩:=n0 (b:=G.b) (g:=Ph (n+1) "takeable") (q:=ab (aa 0) (ab (eV (ac ar (vv 1) (vi 1))) (ab (aa 2) (ab (eV (ac ar (vv 9) (vi 3))) aY)))) (L:=t G.i G.r (qp (eN X (.str v) Z V k W m)) s) (S:=S) (l:=[.ref G.i,.p (.tup o),.p (.int (hd:Int)),.p V]) (by simp [t,oh]) e1 fr1 (aQ G.le fr.len) an;obtain⟨L',F,e3,⟨q10',rfl⟩,fr3,h5⟩:=k3 G _ S2 acc ⟨s,rfl⟩ (fr.trans K) (K.hi _ _ (aQ G.le G.hr) w) (by lia);refine⟨t G.i G.r (qp (eN X (.str v) Z V k W m)) s,t G.i G.r (qp (eN X (.str v) Z V k W m)) q10',F,rfl,?_,⟨_,_,rfl⟩,fr3,h5⟩;unfold cU;rw [ip,R,hc];show cN _ _ _ _ _=_;rw [eO,i',e2];exact e3)
 have hsl:=O.sl;refine⟨ys,by lia,h2,fun b i S hB=>?_⟩;obtain⟨L',F,e3,⟨q9,s,rfl⟩,fr3,h5⟩:=h3 ⟨b,i,S,S.length,hB,Nat.le_refl _⟩ (t i S.length none none) (S++[.lst []]) [] ⟨none,none,rfl⟩ (Fr.app _ _ _) (iH _ _) (by simp;lia);refine⟨.ref S.length,F,?_,fr3,.inr ⟨S.length,Nat.le_refl _,rfl,.inl h5⟩⟩;have ef:=uV (n:=n+1) (by lia) hB T;obtain⟨jh,jp,jl,jm,mk,mv,h⟩:=hB;rw [fE];show (match cF _ _ [some (.ref i),qp (.tup [.tup E,.tup o]),qi (hd:Int),none,none,none,none,none,none,none,none] S with | some (.rt d,_,F)=>some (d,F) | some (.nx,_,F)=>some (.p .non,F) | _=>none)=_;unfold cF;rw [aB (e:=[some (.ref i),qp (.tup [.tup E,.tup o]),qi (hd:Int),qp (jf J C u p A H),none,none,none,none,none,none,none]) (b:=S) (by rw [dI,h.meth rfl (HR _) HW (l:=[.p (.int (hd:Int))]) (by simp),ef];rfl)];rw [aB (e:=[some (.ref i),qp (.tup [.tup E,.tup o]),qi (hd:Int),qp (jf J C u p A H),qi (r:Int),qp (.tup cs),qp (.tup l),none,none,none,none]) (b:=S) (by simp [aX hhx])];rw [aB (e:=[some (.ref i),qp (.tup [.tup E,.tup o]),qi (hd:Int),qp (jf J C u p A H),qi (r:Int),qp (.tup cs),qp (.tup l),qp (.dct (cH p) cs),none,none,none]) (b:=S) (by simp [ev])];rw [aB (e:=t i S.length none none) (b:=S++[.lst []]) (by simp [t])];rw [aB (e:=t i S.length q9 s) (b:=F) (by rw [eO,i',show (ac ar (vv 3) (vi 5)) (t i S.length none none) (S++[.lst []])=some (.lst H,S++[.lst []]) by simp [t,Lm]];exact e3)];rfl
theorem Cc {B:BD} (I:Pln B.fams B.roads B.wishes) {n:Nat} (j:5≤n) {w:Str} (hw:w="lose"\/w="double") {E o:List P} (Z:StL B E o) :
  ∃W:List P,W.length≤6144/\(∀z ∈ W,ja B z)/\∀(b i:Nat) (S:aF),Bd B b i S->∃d u,Ph n "flaw_ends" [.ref i,.p (.tup [.tup E,.tup o]),.p (.str w)] S=some (d,u)/\Fr b S u/\my S u d W:=by
 obtain⟨n,rfl⟩:=fM (n:=n) (by first | assumption | lia);have how:PyData.strOk w=true:=by rcases hw with rfl | rfl <;> simp
 have hpl:=rS I;have hrl:=Z.hr.1;let f:Nat->Nat->Option D->Option D->Option D->Option D->Option D->Option D->Option D->Option D->Lc:=fun i V T U l H F t s e=>[some (.ref i),qp (.tup [.tup E,.tup o]),qs w,some (.ref V),T,U,l,H,F,t,s,e]
 obtain⟨W,h1,h2,h3⟩:=de (j:=GC B) (g:=bn [ak 4,ak 5]) (b:=dM (Ph (n+1)) (Ph n)) (Sp:=fun G S=>Fr G.b G.S0 S) (r:=fun G=>G.r) (Q:=ja B) (c:=3) (M:=10000) (a:=b_ 0 B.PR) (p:=fun G L=>∃T U l H F t s e,L=f G.i G.r T U l H F t s e) (fun x hx=>by
  obtain⟨k,hk,hxe⟩:=pT.mp hx;obtain⟨p,hp,rfl⟩:=hU (s:=B.PR) (i:=k) (v:=x) (by rw [cG hk,hxe]);obtain⟨road,hro,a,c,rfl⟩:=vg (bY hp);obtain⟨hkl,C,R,hkr⟩:=Z.hr.at hp;have A:=I.hr road hro;obtain⟨fb,hfb,ef⟩:=GK (n:=n+1) (by lia) hw A C;have O:∃kd:Str,ar road (.int 2)=some (.str kd):=by obtain⟨ra,rb,kd,c,d1,d2,_,_,_,_,_,rfl⟩:=A;exact⟨kd,by simp⟩
  obtain⟨kd,O⟩:=O;obtain⟨us,hu1,hu2,eu⟩:=BW (n:=n+1) (by lia) kd R;have hls3:=R.1;have pre:∀(i V:Nat) (l H F t s e:Option D) (S:aF) (g:ES),ae (ni (bn [ak 6,ak 7,ak 8]) (vv 5)) (ae (au 9 (eV (ac ar (ac ar (vv 1) (vi 1)) (vv 4)))) g) (f i V (qi (k:Int)) (qp (pr road a c)) l H F t s e) S=g (f i V (qi (k:Int)) (qp (pr road a c)) (qp road) (qi (a:Int)) (qi (c:Int)) (qp (.tup C)) s e) S:=fun i V l H F t s e S g=>by
   rw [aB (e:=f i V (qi (k:Int)) (qp (pr road a c)) (qp road) (qi (a:Int)) (qi (c:Int)) t s e) (b:=S) (by simp [f,pr]),
    aB (e:=f i V (qi (k:Int)) (qp (pr road a c)) (qp road) (qi (a:Int)) (qi (c:Int)) (qp (.tup C)) s e) (b:=S) (by simp [f,aX hkr])]
  cases fb with
  | false=>refine⟨[],by simp,fun _ h=>(by cases h),fun G L S J K X m hM=>?_⟩;obtain⟨T,U,l,H,F,t,s,e,rfl⟩:=K;refine⟨f G.i G.r (qi (k:Int)) (qp (pr road a c)) l H F t s e,f G.i G.r (qi (k:Int)) (qp (pr road a c)) (qp road) (qi (a:Int)) (qi (c:Int)) (qp (.tup C)) s e,S,rfl,?_,⟨_,_,_,_,_,_,_,_,rfl⟩,X,by simpa using m⟩;unfold dM;rw [pre];simp [f,ef]
  | true=>
   obtain⟨W,k1,k2,k3⟩:=de (j:=GC B) (g:=ak 10) (b:=fx (Ph (n+1)) (Ph n)) (Sp:=fun G S=>Fr G.b G.S0 S) (r:=fun G=>G.r) (Q:=ja B) (c:=1) (M:=10000) (a:=us) (p:=fun G L=>∃s e,L=f G.i G.r (qi (k:Int)) (qp (pr road a c)) (qp road) (qi (a:Int)) (qi (c:Int)) (qp (.tup C)) s e) (fun y hy=>by
    obtain⟨sp,hsp,rfl⟩:=hu2 y hy;obtain⟨zs,hz,ez⟩:=GW (n:=n+1) (by lia) hw R (fun q=>hfb q rfl) hsp;have er:=nj (n:=n+1) (by lia) (xs:=o) (k:=k) hkl (by lia) (.tup zs);refine⟨[.tup [.tup [.str w,.int (a:Int),.int (c:Int),.int (sp:Int)],.tup [.tup E,.tup (o.set k (.tup zs))]]],by simp,fun z hz'=>⟨_,_,by simpa using hz',fun d hd=>?_,E,_,rfl,⟨Z.hl,Z.hh,Z.hr.set k hz⟩⟩,fun G L S J K X m hM=>?_⟩
    .simp only [av,ey,ee] at hd;rcases hd with rfl | rfl | rfl | rfl
     .simpa using how
     .simp
     .simp
     .simp
    .obtain⟨s,e,rfl⟩:=K;refine⟨f G.i G.r (qi (k:Int)) (qp (pr road a c)) (qp road) (qi (a:Int)) (qi (c:Int)) (qp (.tup C)) (qi (sp:Int)) e,f G.i G.r (qi (k:Int)) (qp (pr road a c)) (qp road) (qi (a:Int)) (qi (c:Int)) (qp (.tup C)) (qi (sp:Int)) (qp (.tup (o.set k (.tup zs)))),_,rfl,?_,⟨_,_,rfl⟩,X.set G.le G.hr _,i4 m⟩;unfold fx;refine (aB (e:=f G.i G.r (qi (k:Int)) (qp (pr road a c)) (qp road) (qi (a:Int)) (qi (c:Int)) (qp (.tup C)) (qi (sp:Int)) (qp (.tup (o.set k (.tup zs))))) (b:=S) (by simp [f,ez,er])).trans (rQ rfl m ?_ m (by lia));simp [f])
   refine⟨W,by lia,k2,fun G L S J K X m hM=>?_⟩;obtain⟨T,U,l,H,F,t,s,e,rfl⟩:=K;obtain⟨L',u,e3,⟨q10',q11',rfl⟩,N,h5⟩:=k3 G _ S J ⟨s,e,rfl⟩ X m (by lia);refine⟨f G.i G.r (qi (k:Int)) (qp (pr road a c)) l H F t s e,f G.i G.r (qi (k:Int)) (qp (pr road a c)) (qp road) (qi (a:Int)) (qi (c:Int)) (qp (.tup C)) q10' q11',u,rfl,?_,⟨_,_,_,_,_,_,_,_,rfl⟩,N,h5⟩;unfold dM;rw [pre];simp only [f] at e3;simp [f,ef,O,eu,e3])
 rw [fj] at h1 h3;refine⟨W,by lia,h2,fun b i S hB=>?_⟩;have Y:=Fr.app b S [.lst []];obtain⟨jh,jp,jl,jm,mk,mv,h⟩:=hB.fr Y;have frB:=Y.trans (Fr.frz h.bp h.pr);have hb:=hB.le;have hjp:=h.bp;obtain⟨L',u,e3,⟨T,U,l,H,F,t,s,e,rfl⟩,N,h5⟩:=h3 ⟨b,i,S,S.length,hB,Nat.le_refl _⟩ (f i S.length none none none none none none none none) ((S++[SO.lst []]).set jp (.fz (.lst B.PR))) [] ⟨none,none,none,none,none,none,none,none,rfl⟩ frB (by rw [bx (by lia)];exact iH _ _) (by simp;lia);refine⟨.ref S.length,u,?_,N,.inr ⟨S.length,Nat.le_refl _,rfl,.inl h5⟩⟩;rw [oC];show (match g8 _ _ [some (.ref i),qp (.tup [.tup E,.tup o]),qs w,none,none,none,none,none,none,none,none,none] S with | some (.rt d,_,u)=>some (d,u) | some (.nx,_,u)=>some (.p .non,u) | _=>none)=_;unfold g8;rw [aB (e:=f i S.length none none none none none none none none) (b:=S++[.lst []]) (by simp [f])];rw [aB (e:=f i S.length T U l H F t s e) (b:=u) (by rw [eO,zc,m5,h.pairs rfl,aA,h.pr.frz];exact e3)];rfl
theorem GY (I:Pln B.fams B.roads B.wishes) (Y:Places B) (j:14≤n) (hS:StL B E o) :
  ∃y:List P,y.length≤40000/\(∀z ∈ y,ja B z)/\∀(b i:Nat) (S:aF),Bd B b i S->∃d p,Ph n "ends_on" [.ref i,.p (.tup [.tup E,.tup o])] S=some (d,p)/\Fr b S p/\my S p d y:=by
 obtain⟨n,rfl⟩:=fM (n:=n) (by first | assumption | lia);have h4:=gn I;have hhl:=jw (f:=B.fams);obtain⟨O,la1,la2,ela⟩:=Cc I (n:=n+1) (by lia) (.inl rfl) hS;obtain⟨da,da1,V,Z⟩:=Cc I (n:=n+1) (by lia) (.inr rfl) hS;let a:Nat->Nat->Option D->Lc:=fun i r' q=>[some (.ref i),qp (.tup [.tup E,.tup o]),some (.ref r'),q]
 obtain⟨y,h1,h2,h3⟩:=de (j:=GC B) (g:=ak 3) (b:=jo (Ph (n+1)) (Ph n)) (Sp:=fun G S=>Fr G.b G.S0 S) (r:=fun G=>G.r) (Q:=ja B) (c:=6144) (M:=100000) (a:=intsFrom 0 (homes B.fams).length) (p:=fun G L=>∃q,L=a G.i G.r q) (fun x hx=>by obtain⟨k,rfl,hk⟩:=dC hx;simp only [eK];have T:(bf B.fams)[k]? = some ((bf B.fams)[k]'(by lia)):=cG (by lia);obtain⟨es,m1,m2,m3⟩:=Ca I Y (n:=n+1) (by lia) T hS;refine⟨es,m1,m2,fun G L S acc hLp fr H hM=>?_⟩;obtain⟨q,rfl⟩:=hLp;obtain⟨d,N,W,f,an⟩:=m3 G.b G.i S (G.bd.fr fr);obtain⟨S2,X,e⟩:=n0 (b:=G.b) (g:=Ph (n+1) "hand_ends") (q:=ab (aa 0) (ab (aa 1) (ab (aa 3) aY))) (L:=a G.i G.r (qi (k:Int))) (S:=S) (l:=[.ref G.i,.p (.tup [.tup E,.tup o]),.p (.int (k:Int))]) rfl W f (aQ G.le fr.len) an;have F:=e.hi _ _ (aQ G.le G.hr) H;exact⟨a G.i G.r (qi (k:Int)),_,_,rfl,jy rfl H X F (by lia),⟨_,rfl⟩,(fr.trans e).set G.le G.hr _,i4 F⟩)
 rw [bc] at h1 h3;refine⟨y++O++da,by rw [cV,cV];lia,fun z s=>?_,fun b i S u=>?_⟩
 .rcases dh.mp s with s | s
  .rcases dh.mp s with s | s
   .exact h2 z s
   .exact la2 z s
  .exact V z s
 .have A:=Fr.app b S [.lst []];have w:=u.le;obtain⟨L',N,W,⟨q,rfl⟩,f,K⟩:=h3 ⟨b,i,S,S.length,u,Nat.le_refl _⟩ (a i S.length none) (S++[.lst []]) [] ⟨none,rfl⟩ A (iH _ _) (by simp;lia);obtain⟨d2,T2,f2,e,R⟩:=ela b i N (u.fr f);obtain⟨S2,X,m⟩:=n0 (b:=b) (g:=Ph (n+1) "flaw_ends") (q:=ab (aa 0) (ab (aa 1) (ab (eV (vt "lose")) aY))) (L:=a i S.length q) (S:=N) (l:=[.ref i,.p (.tup [.tup E,.tup o]),.p (.str "lose")]) rfl f2 e (aQ w f.len) R;have C:=m.hi _ _ w K;have v:Fr b S (S2.set S.length (.lst (([]++y++O).map .p))):=(f.trans m).set w (Nat.le_refl _) _;have l:=i4 (a:=.lst (([]++y++O).map .p)) C;obtain⟨d3,T3,f3,fr3,U⟩:=Z b i _ (u.fr v);obtain⟨S3,e3,t⟩:=n0 (b:=b) (g:=Ph (n+1) "flaw_ends") (q:=ab (aa 0) (ab (aa 1) (ab (eV (vt "double")) aY))) (L:=a i S.length q) (l:=[.ref i,.p (.tup [.tup E,.tup o]),.p (.str "double")]) rfl f3 fr3 (aQ w v.len) U;have J:=t.hi _ _ w l;refine⟨.ref S.length,S3.set S.length (.lst (([]++y++O++da).map .p)),?_,(v.trans t).set w (Nat.le_refl _) _,.inr ⟨S.length,Nat.le_refl _,rfl,.inl (by rw [i4 J];simp)⟩⟩;obtain⟨jh,jp,jl,jm,mk,mv,h⟩:=u.fr A;have hq:(homes B.fams).length < 1000000:=by lia
  rw [sZ];show (match jq _ _ [some (.ref i),qp (.tup [.tup E,.tup o]),none,none] S with | some (.rt d,_,p)=>some (d,p) | some (.nx,_,p)=>some (.p .non,p) | _=>none)=_;unfold jq;rw [aB (e:=a i S.length none) (b:=S++[.lst []]) (by simp [a])];rw [aB (e:=a i S.length q) (b:=N) (by rw [eO,show g0 (dR (dD (aT Att) (aa 0) "homes")) (a i S.length none) (S++[.lst []])=some (intsFrom 0 (homes B.fams).length,S++[.lst []]) by rw [Bm,Av,h.homes rfl];simp [h.ho.len,hq]];exact W)]
  rw [aB (jy rfl K X C (by simp;lia))];rw [aB (jy rfl l e3 J (by simp;lia))];rfl
theorem kO:kJ (s.map P.bl)=some s:=by
 induction s with
 | nil=>rfl
 | cons b r i=>simp [kJ,i]
end My
namespace My
open PySem L2 Ev
theorem jx [DecidableEq w] (x:w) (y:D):∀(s:List w) (l:List D),s.Nodup->s.length=l.length->(cL x y s l).1.Nodup/\(cL x y s l).1.length=(cL x y s l).2.length/\(cL x y s l).1.length≤s.length+1/\(∀k ∈ (cL x y s l).1,k=x\/k ∈ s)/\∀k,bQ k (cL x y s l).1 (cL x y s l).2=if x=k then some y else bQ k s l
 | [],[],_,_=>⟨by simp [cL],rfl,by simp [cL],fun k h=>.inl (by simpa [cL] using h),fun k=>by by_cases q:x=k <;> simp [cL,bQ,q]⟩
 | [],_::_,_,h=>by simp at h
 | _::_,[],_,h=>by simp at h
 | a::s,v::l,f,m=>by
  obtain⟨c,f⟩:=List.nodup_cons.mp f;by_cases q:a=x
  .have e:cL x y (a::s) (v::l)=(a::s,y::l):=by simp [cL,q]
   rw [e];refine⟨List.nodup_cons.mpr ⟨c,f⟩,by simpa using m,by simp,fun k h=>.inr h,fun k=>?_⟩;subst q;by_cases n:a=k <;> simp [bQ,n]
  .obtain⟨t,p,u,b,d⟩:=jx x y s l f (by simpa using m);have e:cL x y (a::s) (v::l)=(a::(cL x y s l).1,v::(cL x y s l).2):=by simp [cL,q]
   rw [e];refine⟨List.nodup_cons.mpr ⟨fun z=>?_,t⟩,by simp [p],by simp;lia,fun k h=>?_,fun k=>?_⟩
   .rcases b a z with z | z
    .exact q z
    .exact c z
   .rcases av.mp h with rfl | h
    .exact .inr List.mem_cons_self
    .rcases b k h with h | h
     .exact .inl h
     .exact .inr (aZ _ h)
   .show (if a=k then some v else bQ k (cL x y s l).1 (cL x y s l).2)=_;by_cases n:a=k
    .subst n;have:¬x=a:=fun z=>q z.symm
     simp [bQ,this]
    .rw [if_neg n,d];by_cases r:x=k
     .simp [r]
     .simp [r,bQ,n]
noncomputable def oq:P->List bC
 | .tup [_,.int a,.int b]=>[.inl a,.inl b]
 | _=>[]
noncomputable abbrev KV:=List (List bC)×List D
noncomputable def putAll:Nat->List P->KV->KV
 | _,[],s=>s
 | k,p::r,s=>putAll (k+1) r (cL (oq p) (.p (.int (k:Int))) s.1 s.2)
structure KVok (s:KV):Prop where
 nd:s.1.Nodup
 ln:s.1.length=s.2.length
theorem KVok.put (h:KVok s) (k:List bC) (y:D):KVok (cL k y s.1 s.2):=by obtain⟨x,a,_⟩:=jx k y s.1 s.2 h.nd h.ln;exact⟨x,a⟩
theorem B4:∀(ps:List P) (k:Nat) (s:KV),KVok s->∀y d,bQ y (putAll k ps s).1 (putAll k ps s).2=some d->bQ y s.1 s.2=some d\/∃(j:Nat) (p:P),ps[j]? = some p/\d=.p (.int ((k+j:Nat):Int))
 | [],k,s,h,y,d,e=>.inl e
 | p::r,k,s,h,y,d,e=>by
  rcases B4 r (k+1) _ (h.put (oq p) (.p (.int (k:Int)))) y d e with e | ⟨j,n,x,a⟩
  .rw [(jx (oq p) (.p (.int (k:Int))) s.1 s.2 h.nd h.ln).2.2.2.2] at e;split at e
   .cases e;exact .inr ⟨0,p,rfl,rfl⟩
   .exact .inl e
  .exact .inr ⟨j+1,n,by simpa using x,by rw [a,show k+1+j=k+(j+1) by lia]⟩
theorem yH:∀(ps:List P) (k:Nat) (s:KV),KVok s->∀y,((∃d,bQ y s.1 s.2=some d)\/∃p ∈ ps,oq p=y)->∃d,bQ y (putAll k ps s).1 (putAll k ps s).2=some d
 | [],k,s,h,y,q=>by
  rcases q with q | ⟨_,z,_⟩
  .exact q
  .cases z
 | p::r,k,s,h,y,q=>by
  refine yH r (k+1) _ (h.put (oq p) (.p (.int (k:Int)))) y ?_;have e:=(jx (oq p) (.p (.int (k:Int))) s.1 s.2 h.nd h.ln).2.2.2.2 y;by_cases w:oq p=y
  .exact .inl ⟨_,by rw [e,if_pos w]⟩
  .rcases q with ⟨d,q⟩ | ⟨x,z,q⟩
   .exact .inl ⟨d,by rw [e,if_neg w];exact q⟩
   .rcases av.mp z with rfl | z
    .exact absurd q w
    .exact .inr ⟨x,z,q⟩
noncomputable def uH (m r w:List P):BD:=⟨m,r,w,(putAll 0 (bF (aN m) r) ([],[])).1,(putAll 0 (bF (aN m) r) ([],[])).2⟩
theorem JI:KVok ([],[]):=⟨by simp,rfl⟩
theorem o9 (m o w:List P):Places (uH m o w) where
 get:=fun r a b h=>yH _ 0 _ JI _ (.inr ⟨_,h,rfl⟩)
 ok:=fun x y d h=>by
  rcases B4 _ 0 _ JI _ d h with e | ⟨j,p,s,n⟩
  .cases e
  .obtain⟨r,k,a,b,rfl⟩:=vg (B:=uH m o w) (bY s);exact⟨j,r,a,b,k,by rw [n,jV],s⟩
@[simp] theorem LJ:¬("families":Str)="homes"/\¬("families":Str)="pairs"/\¬("families":Str)="places"/\¬("families":Str)="members"/\¬("homes":Str)="pairs"/\¬("homes":Str)="places"/\¬("homes":Str)="members"/\¬("pairs":Str)="places"/\¬("pairs":Str)="members"/\¬("places":Str)="members":=by decide +kernel
theorem Cg {ψ ι:Str->GF} (l:P) (a b c:D) (o u:SO):∀(ps:List P) (k:Nat) (s:KV),KVok s->s.1.length+ps.length≤900000->(∀p ∈ ps,∃r x y,p=.tup [r,.int x,.int y])->∀f m:Option D,∃q n,
  br (bn [ak 2,ak 3]) (eX ψ ι) (b_ (k:Int) ps) [some (.ref 0),qp l,f,m,none] [.ins "Board" ["families","homes","pairs","places"] [a,b,c,.ref 3],o,u,.dtt s.1 s.2]=some (.nx,[some (.ref 0),qp l,q,n,none],[.ins "Board" ["families","homes","pairs","places"] [a,b,c,.ref 3],o,u,.dtt (putAll k ps s).1 (putAll k ps s).2])
 | [],k,s,_,_,_,f,m=>⟨f,m,rfl⟩
 | p::r,k,s,h,i,g,f,m=>by
  simp only [bt] at i;obtain⟨d,x,y,rfl⟩:=g p List.mem_cons_self;have j:=(jx (oq (.tup [d,.int x,.int y])) (.p (.int (k:Int))) s.1 s.2 h.nd h.ln).2.2.1;obtain⟨q,n,e⟩:=Cg (ψ:=ψ) (ι:=ι) l a b c o u r (k+1) _ (h.put (oq (.tup [d,.int x,.int y])) (.p (.int (k:Int)))) (by lia) (fun p v=>g p (aZ _ v)) (qi (k:Int)) (qp (.tup [d,.int x,.int y]));refine⟨q,n,?_⟩;unfold b_ putAll;rw [hY] at e;refine (cm (L1:=[some (.ref 0),qp l,qi (k:Int),qp (.tup [d,.int x,.int y]),none]) rfl ?_).trans e;have t:=h.nd;have w:s.1.length≤1000000:=by lia
  simp [eX,jG,gE,iq,ck,bZ,t,w,oq]
theorem wb:∀{k:List bC}{l:List D},bQ r k l=bI r k l
 | [],_=>by cases ‹List D› <;> rfl
 | _::_,[]=>rfl
 | h::k,v::l=>by
  show (if h=r then some v else bQ r k l)=if h=r then some v else bI r k l
  rw [wb]
theorem Bs {n:Nat} (w:2≤n) {m:List P}{S:aF}{a e s:D} (x:S[0]? = some (.ins "Board" fields [.p (.lst m),.ref 1,a,e,s])) (q:S[1]? = some (.lst ((homes m).map .p))) {k:Nat}{f:P} (v:(bf m)[k]? = some f):Ph n "Board.family_of" [.ref 0,.p (.int (k:Int))] S=some (.p f,S):=by
 obtain⟨n,rfl⟩:=fM (n:=n) (by first | assumption | lia);obtain⟨p,b,c⟩:=ly v;have r:tf (dD (aT Att) (aa 0) "homes") (vv 1) [some (.ref 0),qi (k:Int)] S=some (.p (.int (p:Int)),S):=jt.ix (j:=1) (.inl q) (by simp [x,jG,Bb]) rfl (aX b);have t:dD (aT Att) (aa 0) "families" [some (.ref 0),qi (k:Int)] S=some (.p (.lst m),S):=by simp [x,jG,Bb]
 rw [b6];show (match aL _ [some (.ref 0),qi (k:Int)] S with | some (.rt d,_,h)=>some (d,h) | some (.nx,_,h)=>some (.p .non,h) | _=>none)=_;rw [mI,ji,t,aA,m5,r];simp [aX c]
noncomputable def gU (N:LS) (t:Nat) (s:Str):List Nat:=(List.range t).filter fun i=>decide (N[i]? = some s)
theorem iA (N:LS) (t:Nat) (s:Str):gU N (t+1) s=if N[t]? = some s then gU N t s++[t] else gU N t s:=by
 unfold gU;rw [List.range_succ,List.filter_append];by_cases h:N[t]? = some s
 .rw [if_pos h,ud (by simpa using h)];rfl
 .rw [if_neg h,uc (by simpa using h)];simp
theorem u_ (a:t≤N.length) (h:s ∉ N.take t):gU N t s=[]:=by
 unfold gU;refine List.filter_eq_nil_iff.mpr fun i x q=>h ?_
 have x:i < t:=pI.mp x;have e:=of_decide_eq_true q;rw [<- ii x] at e;exact bY e
structure MI (fams:List P) (o2 o3:SO) (t:Nat) (mk:List bC) (mv:List D) (S:aF):Prop where
 h0:S[0]? = some (.ins "Board" fields [.p (.lst fams),.ref 1,.ref 2,.ref 3,.ref 4])
 h1:S[1]? = some (.lst ((homes fams).map .p))
 h2:S[2]? = some o2
 h3:S[3]? = some o3
 h4:S[4]? = some (.dct mk mv)
 nd:mk.Nodup
 ln:mk.length=mv.length
 le:mk.length≤t
 yes:∀s ∈ (aN fams).take t,∃j,bQ (.inr s) mk mv=some (.ref j)/\5≤j/\S[j]? = some (.lst ((du (gU (aN fams) t s)).map .p))
 no:∀s,s ∉ (aN fams).take t->bQ (.inr s) mk mv=none
 inj:∀s s' j,bQ (.inr s) mk mv=some (.ref j)->bQ (.inr s') mk mv=some (.ref j)->s=s'
variable {m:List P}{n:Nat}
theorem A_ (h:MI m o2 o3 t mk r S) (hn:2≤n) (ht:t≤100) (L:∀f ∈ m,gF rs f) (J:(bf m)[t]? = some f) (l:P) (v d:Option D) :
  ∃R U X,MI m o2 o3 (t+1) R U X/\bW (Ph n) (Ph (n-1)) [some (.ref 0),qp l,v,d,qi (t:Int)] S=some (.nx,[some (.ref 0),qp l,v,d,qi (t:Int)],X):=by
 have N:(aN m)[t]? = some (bj f):=by unfold aN;rw [List.getElem?_map,J];rfl
 have htl:t < (aN m).length:=bD N;have ef:=Bs hn h.h0 h.h1 J;have em:dm (mT Tb (Ph n)) (aa 0) "family_of" (ab (aa 4) aY) [some (.ref 0),qp l,v,d,qi (t:Int)] S=some (.p f,S):=by rw [hV];show aH (some (D.ref 0,S)) _=_;rw [aA];simp only [h.h0,HR,HW];exact ef
 have Z:(ac ar (vE (dm (mT Tb (Ph n)) (aa 0) "family_of" (ab (aa 4) aY))) (vi 0)) [some (.ref 0),qp l,v,d,qi (t:Int)] S=some (.str (bj f),S):=by obtain⟨nm,c,V,I,whos,W,_,rfl⟩:=jc L (bY J);rw [CD,m5,em];simp [bj]
 have eo:dD (aT Att) (aa 0) "members" [some (.ref 0),qp l,v,d,qi (t:Int)] S=some (.ref 4,S):=by simp [h.h0,jG,Bb]
 have l5:4 < S.length:=bD h.h4;have E:(aN m).take (t+1)=(aN m).take t++[bj f]:=by rw [List.take_add_one,N];rfl
 have p:∀k,k < S.length->(S++[SO.lst []])[k]? = S[k]?:=fun k B=>List.getElem?_append_left B;have u:jD (.ref 4) S=some (4,mk,r):=by simp [jD,h.h4]
 have o:jD (.ref 4) (S++[.lst []])=some (4,mk,r):=by simp [jD,p 4 l5,h.h4]
 have A:(mk.Nodup/\few mk=true):=⟨h.nd,by rw [lz];have:=h.le;lia⟩;by_cases Q:bj f ∈ (aN m).take t
 .obtain⟨j,F,hj,Y⟩:=h.yes _ Q;have M:j < S.length:=bD Y;have K:(S++[SO.lst []])[j]? = some (.lst ((du (gU (aN m) t (bj f))).map .p)):=by rw [p j M];exact Y
  have C:(du (gU (aN m) t (bj f))).length≤1000000:=by have:=j0 (fun i=>decide ((aN m)[i]? = some (bj f))) (List.range t);simp [du,gU];simp at this;lia
  refine⟨mk,r,(S++[SO.lst []]).set j (.lst ((du (gU (aN m) (t+1) (bj f))).map .p)),?_,?_⟩
  .have e:∀k,k < S.length->k≠j->((S++[SO.lst []]).set j (.lst ((du (gU (aN m) (t+1) (bj f))).map .p)))[k]? = S[k]?:=fun k B q=>by rw [bx (fun z=>q z.symm),p k B]
   refine⟨by rw [e 0 (by lia) (by lia)];exact h.h0,by rw [e 1 (by lia) (by lia)];exact h.h1,by rw [e 2 (by lia) (by lia)];exact h.h2,by rw [e 3 (by lia) (by lia)];exact h.h3,by rw [e 4 (by lia) (by lia)];exact h.h4,h.nd,h.ln,by have:=h.le;lia,fun s x=>?_,fun s x=>?_,h.inj⟩
   .by_cases q:s=bj f
    .subst q;exact⟨j,F,hj,by rw [dN (by simp;lia)]⟩
    .have g:s ∈ (aN m).take t:=by
      rw [E] at x;rcases dh.mp x with z | z
      .exact z
      .exact absurd (List.mem_singleton.mp z) q
     obtain⟨y,a,b,H⟩:=h.yes s g;have O:y≠j:=fun z=>q (h.inj s (bj f) j (z ▸ a) F);refine⟨y,a,b,?_⟩;rw [e y (bD H) O,iA,if_neg fun z=>q (by rw [N] at z;cases z;rfl)];exact H
   .exact h.no s fun z=>x (by rw [E];exact k_ _ z)
  .unfold bW;rw [km,j6,nP,eo,aA];simp only [u,Z,aA];rw [show cS aW [some (D.ref 0),qp l,v,d,qi (t:Int)] S=some (.ref S.length,S++[.lst []]) by simp];simp only [aA,o,bZ,if_pos A,F,dt,K];rw [show aa 4 [some (D.ref 0),qp l,v,d,qi (t:Int)] (S++[SO.lst []])=some (.p (.int (t:Int)),S++[.lst []]) from rfl,aA];simp only [K];rw [if_pos (by rw [lz,bu];exact C),iA,if_pos N];simp [du]
 .have F:=h.no _ Q;obtain⟨g1,g2,g3,g4,G⟩:=jx (.inr (bj f):bC) (.ref S.length) mk r h.nd h.ln;have c0:gU (aN m) t (bj f)=[]:=u_ (by lia) Q;refine⟨(cL (Sum.inr (bj f):bC) (.ref S.length) mk r).1,(cL (Sum.inr (bj f):bC) (.ref S.length) mk r).2,((S++[SO.lst []]).set 4 (SO.dct (cL (Sum.inr (bj f):bC) (.ref S.length) mk r).1 (cL (Sum.inr (bj f):bC) (.ref S.length) mk r).2)).set S.length (.lst [.p (.int (t:Int))]),?_,?_⟩
  .have e:∀k,k < S.length->k≠4->(((S++[SO.lst []]).set 4 (.dct (cL (.inr (bj f)) (.ref S.length) mk r).1 (cL (.inr (bj f)) (.ref S.length) mk r).2)).set S.length (.lst [.p (.int (t:Int))]))[k]? = S[k]?:=fun k B q=>by rw [bx (by lia),bx (fun z=>q z.symm),p k B]
   refine⟨by rw [e 0 (by lia) (by lia)];exact h.h0,by rw [e 1 (by lia) (by lia)];exact h.h1,by rw [e 2 (by lia) (by lia)];exact h.h2,by rw [e 3 (by lia) (by lia)];exact h.h3,by rw [bx (by lia),dN (by simp;lia)],g1,g2,by have:=h.le;lia,fun s x=>?_,fun s x=>?_,fun s s' j a b=>?_⟩
   .by_cases q:s=bj f
    .subst q;refine⟨S.length,by rw [G,if_pos rfl],by lia,?_⟩;rw [dN (by simp),iA,if_pos N,c0];rfl
    .have g:s ∈ (aN m).take t:=by
      rw [E] at x;rcases dh.mp x with z | z
      .exact z
      .exact absurd (List.mem_singleton.mp z) q
     obtain⟨y,a,b,H⟩:=h.yes s g;refine⟨y,by rw [G,if_neg fun z=>q (iV z).symm];exact a,b,?_⟩;rw [e y (bD H) (by lia),iA,if_neg fun z=>q (by rw [N] at z;cases z;rfl)];exact H
   .rw [G,if_neg fun z=>x (by rw [E,<- iV z];simp)];exact h.no s fun z=>x (by rw [E];exact k_ _ z)
   .have low:∀s j,bQ (.inr s) mk r=some (.ref j)->j < S.length:=fun s j q=>by
     by_cases w:s ∈ (aN m).take t
     .obtain⟨y,a,_,H⟩:=h.yes s w;rw [q] at a;cases a;exact bD H
     .rw [h.no s w] at q;cases q
    rw [G] at a b;split at a
    .rename_i z1;cases a;split at b
     .rename_i z2;exact (iV z1).symm.trans (iV z2)
     .exact absurd (low _ _ b) (by lia)
    .split at b
     .cases b;exact absurd (low _ _ a) (by lia)
     .exact h.inj s s' j a b
  .have l1:((S++[SO.lst []]).set 4 (.dct (cL (.inr (bj f)) (.ref S.length) mk r).1 (cL (.inr (bj f)) (.ref S.length) mk r).2))[S.length]? = some (.lst []):=by
    rw [bx (by lia)];exact iH _ _
   unfold bW;rw [km,j6,nP,eo,aA];simp only [u,Z,aA];rw [show cS aW [some (D.ref 0),qp l,v,d,qi (t:Int)] S=some (.ref S.length,S++[.lst []]) by simp];simp only [aA,o,bZ,if_pos A,F,dt,l1];rw [show ∀T:aF,aa 4 [some (D.ref 0),qp l,v,d,qi (t:Int)] T=some (.p (.int (t:Int)),T) from fun _=>rfl,aA];simp only [l1];rfl
theorem A' (y:2≤n) (r:∀f ∈ m,gF E f) (H:(bf m).length≤100) (p:P) (s c:Option D) (h:MI m j C 0 [] [] S) :
  ∃mk a x q,MI m j C (bf m).length mk a x/\br (ak 4) (bW (Ph n) (Ph (n-1))) (intsFrom 0 (bf m).length) [some (.ref 0),qp p,s,c,none] S=some (.nx,[some (.ref 0),qp p,s,c,q],x):=by
 obtain⟨o,x,e,mk,a,q,I,rfl⟩:=cw (g:=ak 4) (b:=bW (Ph n) (Ph (n-1))) (Inv:=fun t L S=>∃mk a q,MI m j C t mk a S/\L=[some (.ref 0),qp p,s,c,q]) (s:=intsFrom 0 (bf m).length) (k:=0) (L:=[some (.ref 0),qp p,s,c,none]) (S:=S) (fun i v L S z I=>by obtain⟨rfl,l⟩:=ints_get z;obtain⟨mk,a,q,I,rfl⟩:=I;simp only [eK];rw [jV] at I ⊢;obtain⟨d,w,x,u,e⟩:=A_ I y (by lia) r (cG l) p s c;exact⟨_,_,x,rfl,e,d,w,_,u,rfl⟩) ⟨[],[],none,h,rfl⟩
 rw [bc,jV] at I;exact⟨mk,a,x,q,I,e⟩
theorem n2 (x:Pln m q w) (J:4≤n):∃S,Ph n "Board.__init__" [.ref 0,.p (.tup [.lst m,.lst q,.lst w])] [.ins "Board" [] []]=some (.p .non,S)/\Bd (uH m q w) S.length 0 S:=by
 obtain⟨n,rfl⟩:=fM (n:=n) (by first | assumption | lia);let l:P:=.tup [.lst m,.lst q,.lst w]
 let R:=bF (aN m) q
 have F:R.length≤2048:=rS (B:=uH m q w) x;have G:=gn x;have v:=jw (f:=m);obtain⟨e,f,c⟩:=Cg (ψ:=Ph (n+1)) (ι:=Ph n) l (.p (.lst m)) (.ref 1) (.ref 2) (.lst ((homes m).map .p)) (.fz (.lst R)) R 0 ([],[]) JI (by simp;lia) (fun p H=>by obtain⟨r,_,a,b,rfl⟩:=vg (B:=uH m q w) H;exact⟨r,a,b,rfl⟩) none none
 rw [show ((0:Nat):Int)=0 from rfl] at c;generalize u:putAll 0 R ([],[])=k at c;have I:MI m (.fz (.lst R)) (.dtt k.1 k.2) 0 [] [] [.ins "Board" fields [.p (.lst m),.ref 1,.ref 2,.ref 3,.ref 4],.lst ((homes m).map .p),.fz (.lst R),.dtt k.1 k.2,.dct [] []]:=
  ⟨rfl,rfl,rfl,rfl,rfl,by simp,rfl,by simp,fun s h=>(by simp at h),fun s _=>rfl,fun s s' j h=>(by cases h)⟩
 obtain⟨mk,y,S,L,M,g⟩:=A' (n:=n+1) (by lia) x.hf (by lia) l e f I;have t:Bat (uH m q w) S.length 0 1 2 3 4 mk y S:=by
  refine⟨M.h0,.inl M.h1,.inr M.h2,?_,M.h4,fun s A=>?_,bD M.h0,bD M.h1,bD M.h2,bD M.h3,bD M.h4,Nat.le_refl _⟩
  .have:=M.h3;rw [<- u] at this;exact this
  .have N:(aN m).length=(bf m).length:=by simp [aN]
   obtain⟨j,C,_,i⟩:=M.yes s (by rw [<- N,pP];exact A);refine⟨j,bD i,by rw [<- wb];exact C,.inl ?_⟩;have:gU (aN m) (bf m).length s=eI (uH m q w).N s:=by rw [<- N];rfl
   rw [<- this];exact i
 refine⟨S,?_,1,2,3,4,mk,y,t⟩;have z:=Cd (n:=n+1) (by lia) x.hf x.f0.2 (.lst q) (.lst w);have o:=B1 (n:=n+1) (by lia) x;rw [nO];show (match gK _ _ [some (.ref 0),qp l,none,none,none] [.ins "Board" [] []] with | some (.rt d,_,S)=>some (d,S) | some (.nx,_,S)=>some (.p .non,S) | _=>none)=_;unfold gK;rw [aB (e:=[some (.ref 0),qp l,none,none,none]) (b:=[.ins "Board" ["families"] [.p (.lst m)]]) (by simp [l,jG,Ev.putK,Ev.np])];rw [aB (e:=[some (.ref 0),qp l,none,none,none]) (b:=[.ins "Board" ["families","homes"] [.p (.lst m),.ref 1],.lst ((homes m).map .p)]) (by simp [l,jG,Ev.putK,Ev.np,z])];rw [aB (e:=[some (.ref 0),qp l,none,none,none]) (b:=[.ins "Board" ["families","homes","pairs"] [.p (.lst m),.ref 1,.ref 2],.lst ((homes m).map .p),.lst (R.map .p)]) (by simp [l,jG,Ev.putK,Ev.np,o,R])];rw [aB (e:=[some (.ref 0),qp l,none,none,none]) (b:=[.ins "Board" ["families","homes","pairs","places"] [.p (.lst m),.ref 1,.ref 2,.ref 3],.lst ((homes m).map .p),.lst (R.map .p),.dtt [] []]) (by simp [jG,Ev.putK,Ev.np])];have E:toP 9 (.ref 2) [.ins "Board" ["families","homes","pairs","places"] [.p (.lst m),.ref 1,.ref 2,.ref 3],.lst ((homes m).map .p),.lst (R.map .p),.dtt [] []]=some (.lst R,[.ins "Board" ["families","homes","pairs","places"] [.p (.lst m),.ref 1,.ref 2,.ref 3],.lst ((homes m).map .p),.fz (.lst R),.dtt [] []]):=fY rfl;rw [aB (e:=[some (.ref 0),qp l,e,f,none]) (b:=[.ins "Board" ["families","homes","pairs","places"] [.p (.lst m),.ref 1,.ref 2,.ref 3],.lst ((homes m).map .p),.fz (.lst R),.dtt k.1 k.2]) (by rw [eO,zc,m5];rw [show dD (aT Att) (aa 0) "pairs" [some (D.ref 0),qp l,none,none,none] [SO.ins "Board" ["families","homes","pairs","places"] [.p (.lst m),.ref 1,.ref 2,.ref 3],.lst ((homes m).map .p),.lst (R.map .p),.dtt [] []]=some (.ref 2,[SO.ins "Board" ["families","homes","pairs","places"] [.p (.lst m),.ref 1,.ref 2,.ref 3],.lst ((homes m).map .p),.lst (R.map .p),.dtt [] []]) by simp [jG,gE],aA,E];exact c)]
 rw [aB (e:=[some (.ref 0),qp l,e,f,none]) (b:=[.ins "Board" fields [.p (.lst m),.ref 1,.ref 2,.ref 3,.ref 4],.lst ((homes m).map .p),.fz (.lst R),.dtt k.1 k.2,.dct [] []]) (by simp [jG,Ev.putK,Ev.np,lU,fields])];have K:(homes m).length < 1000000:=by lia
 rw [eO,show g0 (dR (dD (aT Att) (aa 0) "homes")) [some (D.ref 0),qp l,e,f,none] [SO.ins "Board" fields [.p (.lst m),.ref 1,.ref 2,.ref 3,.ref 4],.lst ((homes m).map .p),.fz (.lst R),.dtt k.1 k.2,.dct [] []]=some (intsFrom 0 (homes m).length,[SO.ins "Board" fields [.p (.lst m),.ref 1,.ref 2,.ref 3,.ref 4],.lst ((homes m).map .p),.fz (.lst R),.dtt k.1 k.2,.dct [] []]) by simp [jG,Bb,cd,K],aA,v];simp only [Nat.add_sub_cancel] at g;rw [g]
noncomputable def LE (f g:q->aF->Option w):Prop:=∀L S r,f L S=some r->g L S=some r
theorem dj:LE f f:=fun _ _ _ h=>h
theorem aS (v:∀a,x=some a->j=some a) (k:∀a S r,q a S=some r->w a S=some r) (h:aH x q=some r):aH j w=some r:=by obtain⟨a,S,e,h⟩:=af h;rw [v _ e,aA];exact k _ _ _ h
section
variable {f e:EE}{a i b z:EV}{c H d A:EB}{s s' t B:ES}{l p:fN}{y u:oa}{g k:GF}
theorem DL (h:LE s s') (k:LE t B):LE (ae s t) (ae s' B):=fun L S r q=>by
 rw [mH] at q ⊢;cases e:s L S with
 | none=>rw [e] at q;cases q
 | some z=>obtain⟨f,x,a⟩:=z;rw [e] at q;rw [h _ _ _ e];cases f <;> first | exact k _ _ _ q | exact q
theorem le_if (x:LE c H) (h:LE s s') (k:LE t B):LE (eA c s t) (eA H s' B):=fun L S r q=>aS (x L S) (fun w a r q=>by cases w <;> first | exact k _ _ _ q | exact h _ _ _ q) q
theorem DK (h:LE f e):LE (au w f) (au w e):=fun L S r q=>aS (h L S) (fun _ _ _ q=>q) q
theorem DM (h:LE f e):LE (aL f) (aL e):=fun L S r q=>aS (h L S) (fun _ _ _ q=>q) q
theorem Bg (h:LE f e):LE (ci f) (ci e):=fun L S r q=>aS (h L S) (fun _ _ _ q=>q) q
theorem sL {g:iK} (h:LE s s'):∀(a:List P) (L:Lc) (S:aF) (r:Fl×Lc×aF),br g s a L S=some r->br g s' a L S=some r
 | [],_,_,_,q=>q
 | x::a,L,S,r,q=>by
  simp only [br] at q ⊢;cases e:g x L with
  | none=>rw [e] at q;cases q
  | some k=>
   rw [e] at q;simp only at q ⊢;cases n:s k S with
   | none=>rw [n] at q;cases q
   | some z=>obtain⟨l,L2,f⟩:=z;rw [n] at q;rw [h _ _ _ n];cases l <;> first | exact sL h a L2 f r q | exact q
theorem DQ {g:iK} (h:LE l p) (k:LE s s'):LE (cN l g s) (cN p g s'):=fun L S r q=>aS (h L S) (fun a x r q=>sL k a L x r q) q
theorem Be (h:LE a i):LE (eY o w a) (eY o w i):=fun L S r q=>by
 cases e:a L S with
 | none=>simp only [eY,on,oY,e] at q;cases q
 | some z=>have x:=h _ _ _ e;simp only [eY,on,oY,e] at q;simp only [eY,on,oY,x];exact q
theorem Gr (h:LE a i):LE (eV a) (eV i):=fun L S r q=>aS (h L S) (fun _ _ _ q=>q) q
theorem Gm (h:LE f e):LE (vE f) (vE e):=fun L S r q=>aS (h L S) (fun _ _ _ q=>q) q
theorem Go (h:LE a i) (k:LE b z):LE (ac o a b) (ac o i z):=fun L S r q=>aS (h L S) (fun _ x _ q=>aS (k L x) (fun _ _ _ q=>q) q) q
theorem DP (h:LE a i) (k:LE b z):LE (oe a b) (oe i z):=fun L S r q=>aS (h L S) (fun v x r q=>by
 cases v with
 | lst p=>exact aS (k L x) (fun _ _ _ q=>q) q
 | tup p=>exact aS (k L x) (fun _ _ _ q=>q) q
 | _=>cases q) q
theorem DI (x:LE c H) (h:LE a i) (k:LE b z):LE (BV c a b) (BV H i z):=fun L S r q=>aS (x L S) (fun w e r q=>by cases w <;> first | exact k _ _ _ q | exact h _ _ _ q) q
theorem Gk (h:LE a i) (k:LE l p):LE (aO a l) (aO i p):=fun L S r q=>aS (h L S) (fun _ x _ q=>aS (k L x) (fun _ _ _ q=>q) q) q
theorem Gs (h:LE f e) (k:LE y u):LE (ab f y) (ab e u):=fun L S r q=>aS (h L S) (fun _ x _ q=>aS (k L x) (fun _ _ _ q=>q) q) q
theorem DJ (h:LE l p):LE (aD l) (aD p):=fun L S r q=>aS (h L S) (fun _ _ _ q=>q) q
theorem DN (h:LE l p):LE (a_ l) (a_ p):=fun L S r q=>aS (h L S) (fun _ _ _ q=>q) q
theorem Bf (h:LE g k) (x:List P) (v:P) (q:pureOf g x=some v):pureOf k x=some v:=by
 unfold pureOf at q ⊢;cases e:g (x.map .p) [] with
 | none=>rw [e] at q;cases q
 | some z=>rw [e] at q;rw [h _ _ _ e];exact q
theorem vY (u:∀x v,w x=some v->j x=some v) (h:LE l p):LE (ah w l) (ah j p):=fun L S r q=>aS (h L S) (fun x a r q=>by obtain⟨v,e,rfl⟩:=ig.mp q;rw [u _ _ e];rfl) q
theorem y2 (a:LE g k) (h:LE y u):LE (b7 g y) (b7 k u):=fun L S r q=>aS (h L S) (fun s x r q=>aS (a s x) (fun _ _ _ q=>q) q) q
theorem w_ (a:LE g k) (h:LE y u):LE (fR g y) (fR k u):=fun L S r q=>aS (h L S) (fun s x r q=>a s x r q) q
theorem vX (n:∀c g,M c j=some g->∃k,C c j=some k/\LE g k) (h:LE y u):LE (dm M o j y) (dm C o j u):=fun L S r q=>aS (fun _ e=>e) (fun w a r q=>by
 cases w with
 | p v=>cases q
 | ref i=>
  cases e:a[i]? with
  | none=>simp only [e] at q;cases q
  | some t=>
   cases t with
   | ins c z l=>
    simp only [e] at q ⊢;cases m:M c j with
    | none=>simp only [m] at q;cases q
    | some g=>
     obtain⟨k,x,f⟩:=n c g m;simp only [m,x] at q ⊢;split at q
     .cases q
     .rename_i b;rw [if_neg b];exact aS (h L a) (fun d s r q=>f (.ref i::d) s r q) q
   | _=>simp only [e] at q;cases q) q
theorem Bh {j t:fN}{f:List Nat}{n:Nat}{g:iK} (F:LE j t) (o:LE c H) (h:LE a i):LE (aU j f n g c a) (aU t f n g H i):=fun L S r q=>aS (F L S) (fun l p r q=>by
 split at q
 .rename_i d;rw [if_pos d];refine aS (q:=fun K s=>some (P.lst K,s)) (fun z e=>?_) (fun _ _ _ q=>q) q;clear q d;generalize jC f n L=b at e ⊢;induction l generalizing b p z with
  | nil=>exact e
  | cons x l u=>
   simp only [bo] at e ⊢;cases v:g x b with
   | none=>rw [v] at e;cases e
   | some m=>
    rw [v] at e;simp only at e ⊢;refine aS (o m p) (fun w s r e=>?_) e;cases w with
    | false=>exact u _ _ _ e
    | true=>exact aS (h m s) (fun y A r e=>aS (fun z e=>u _ _ _ e) (fun _ _ _ q=>q) e) e
 .cases q) q
theorem DO (h:LE a i):LE (iR a) (iR i):=fun L S r q=>aS (h L S) (fun _ _ _ q=>q) q
theorem DR (h:LE a i):LE (dn o a) (dn o i):=fun L S r q=>aS (fun _ e=>e) (fun w x r q=>by
 cases e:dt w x with
 | none=>simp only [e] at q;cases q
 | some z=>simp only [e] at q ⊢;exact aS (h L x) (fun _ _ _ q=>q) q) q
theorem Gn (h:LE c H):LE (vB c) (vB H):=fun L S r q=>aS (h L S) (fun _ _ _ q=>q) q
theorem Gy (h:LE a i):LE (bV a) (bV i):=fun L S r q=>aS (h L S) (fun _ _ _ q=>q) q
theorem Gz (h:LE f e):LE (bT f) (bT e):=fun L S r q=>aS (h L S) (fun _ _ _ q=>q) q
theorem GB (h:LE c H):LE (mu c) (mu H):=fun L S r q=>aS (h L S) (fun _ _ _ q=>q) q
theorem GD (h:LE c H) (k:LE d A):LE (gi c d) (gi H A):=fun L S r q=>aS (h L S) (fun w x r q=>by cases w <;> first | exact q | exact k _ _ _ q) q
theorem GA (h:LE c H) (k:LE d A):LE (wv c d) (wv H A):=fun L S r q=>aS (h L S) (fun w x r q=>by cases w <;> first | exact k _ _ _ q | exact q) q
theorem bA (h:LE s s'):LE (cI j w s) (cI j w s'):=fun x S r q=>by
 unfold cI at q ⊢;split at q
 .rename_i l;rw [if_pos l];cases e:s (x.map some++List.replicate (w-x.length) none) S with
  | none=>rw [e] at q;cases q
  | some z=>rw [e] at q;rw [h _ _ _ e];exact q
 .cases q
end
noncomputable def eQ:LS:=["value_of","holds","compared","values_of","Board.family_of","Board.hands_beside","unlike_spots","replaced","without","takeable","cells_behind","whos_behind","targets_of","posted","sendings","step_ends","hand_ends","done_by","able_on"]
theorem yU:(Tb.all fun d=>!(decide (d.short=("family_of":Str)) || decide (d.short=("hands_beside":Str))) || decide (d.name ∈ eQ))=true:=by decide +kernel
theorem DD (e:Tb.find? (B9 r "family_of")=some d):d.name ∈ eQ:=by have x:=bq.mp yU d (pZ e);have h:=pL e;unfold B9 at h;simp only [Bool.and_eq_true,decide_eq_true_eq] at h;simpa [h.1.2] using x
theorem DC (e:Tb.find? (B9 r "hands_beside")=some d):d.name ∈ eQ:=by have x:=bq.mp yU d (pZ e);have h:=pL e;unfold B9 at h;simp only [Bool.and_eq_true,decide_eq_true_eq] at h;simpa [h.1.2] using x
noncomputable def EM (ψ ψ':Str->GF):Prop:=∀x ∈ eQ,LE (ψ x) (ψ' x)
section
variable {ψ ψ':Str->GF} (h:EM ψ ψ') {x:Str} (v:x ∈ eQ) {l p:fN}{y u:oa}{o:EE}
include h v
theorem Gu (k:LE l p):LE (ah (pureOf (ψ x)) l) (ah (pureOf (ψ' x)) p):=vY (Bf (h x v)) k
theorem Gw (k:LE y u):LE (b7 (ψ x) y) (b7 (ψ' x) u):=y2 (h x v) k
theorem Gx (k:LE y u):LE (fR (ψ x) y) (fR (ψ' x) u):=w_ (h x v) k
end
variable {o:EE}
theorem Gq (h:EM ψ ψ') (k:LE y u):LE (dm (mT Tb ψ) o "family_of" y) (dm (mT Tb ψ') o "family_of" u):=vX (fun c g e=>by
 unfold Ev.mT at e ⊢;split at e
 .cases e
 .rename_i n;rw [if_neg n];obtain⟨d,x,rfl⟩:=ig.mp e;rw [x];exact⟨_,rfl,h _ (DD x)⟩) k
theorem Gp (h:EM ψ ψ') (k:LE y u):LE (dm (mT Tb ψ) o "hands_beside" y) (dm (mT Tb ψ') o "hands_beside" u):=vX (fun c g e=>by
 unfold Ev.mT at e ⊢;split at e
 .cases e
 .rename_i n;rw [if_neg n];obtain⟨d,x,rfl⟩:=ig.mp e;rw [x];exact⟨_,rfl,h _ (DC x)⟩) k
section
variable {ψ ψ' ι ι':Str->GF} (h:EM ψ ψ')
include h
theorem cv:LE (bK ψ ι) (bK ψ' ι')/\LE (dg ψ ι) (dg ψ' ι')/\LE (bH ψ ι) (bH ψ' ι')/\LE (cX ψ ι) (cX ψ' ι')/\LE (bB ψ ι) (bB ψ' ι')/\LE (bR ψ ι) (bR ψ' ι')/\LE (eD ψ ι) (eD ψ' ι')/\LE (dL ψ ι) (dL ψ' ι')/\LE (bL ψ ι) (bL ψ' ι')/\LE (cF ψ ι) (cF ψ' ι')/\LE (dF ψ ι) (dF ψ' ι'):=by
 refine⟨?_,?_,?_,?_,?_,?_,?_,?_,?_,?_,?_⟩;all_goals first | unfold bK | unfold dg | unfold bH dQ aJ | unfold cX c_ | unfold bB | unfold bR | unfold eD dY | unfold dL d6 d7 d8 | unfold bL fo | unfold cF cU fw | unfold dF
 all_goals repeat' with_reducible first | exact dj | refine DL ?_ ?_ | refine le_if ?_ ?_ ?_ | refine DK ?_ | refine DM ?_ | refine Bg ?_ | refine DQ ?_ ?_ | refine Be ?_ | refine Gr ?_ | refine Gm ?_ | refine Go ?_ ?_ | refine DP ?_ ?_ | refine DI ?_ ?_ ?_ | refine Gk ?_ ?_ | refine Gs ?_ ?_ | refine DJ ?_ | refine DN ?_ | refine Gu h (by simp [eQ]) ?_ | refine Gq h ?_ | refine Gp h ?_ | refine vY (fun _ _ q=>q) ?_ | refine Gw h (by simp [eQ]) ?_ | refine Gx h (by simp [eQ]) ?_ | refine Bh ?_ ?_ ?_ | refine DO ?_ | refine DR ?_ | refine Gn ?_ | refine Gy ?_ | refine Gz ?_ | refine GB ?_ | refine GD ?_ ?_ | refine GA ?_ ?_
end
theorem tm:Ph 1 "value_of"=cI 2 5 (bK (Ph 0) (Ph 0)):=by kernel_rfl
theorem zI:Ph 1 "holds"=cI 2 3 (dg (Ph 0) (Ph 0)):=by kernel_rfl
theorem tw:Ph 1 "compared"=cI 3 3 (bM (Ph 0) (Ph 0)):=by kernel_rfl
theorem qT:Ph 1 "values_of"=cI 2 2 (dX (Ph 0) (Ph 0)):=by kernel_rfl
theorem j7:Ph 1 "Board.family_of"=cI 2 2 (cM (Ph 0) (Ph 0)):=by kernel_rfl
theorem iT:Ph 1 "Board.hands_beside"=cI 3 3 (bw (Ph 0) (Ph 0)):=by kernel_rfl
theorem mj:Ph 1 "unlike_spots"=cI 2 3 (ce (Ph 0) (Ph 0)):=by kernel_rfl
theorem tu:Ph 1 "replaced"=cI 3 3 (eS (Ph 0) (Ph 0)):=by kernel_rfl
theorem uY:Ph 1 "without"=cI 2 2 (fJ (Ph 0) (Ph 0)):=by kernel_rfl
theorem tq:Ph 1 "takeable"=cI 4 10 (cX (Ph 0) (Ph 0)):=by kernel_rfl
theorem ml:Ph 1 "cells_behind"=cI 4 11 (bH (Ph 0) (Ph 0)):=by kernel_rfl
theorem nR:Ph 1 "whos_behind"=cI 4 4 (bB (Ph 0) (Ph 0)):=by kernel_rfl
theorem oE:Ph 1 "targets_of"=cI 5 6 (bR (Ph 0) (Ph 0)):=by kernel_rfl
theorem xt:Ph 1 "posted"=cI 5 9 (eD (Ph 0) (Ph 0)):=by kernel_rfl
theorem tt:Ph 1 "sendings"=cI 6 18 (dL (Ph 0) (Ph 0)):=by kernel_rfl
theorem qU:Ph 1 "step_ends"=cI 5 16 (bL (Ph 0) (Ph 0)):=by kernel_rfl
theorem qV:Ph 1 "hand_ends"=cI 3 11 (cF (Ph 0) (Ph 0)):=by kernel_rfl
theorem uZ:Ph 1 "done_by"=cI 3 5 (fK (Ph 0) (Ph 0)):=by kernel_rfl
theorem u0:Ph 1 "able_on"=cI 4 4 (dF (Ph 0) (Ph 0)):=by kernel_rfl
theorem lv:∀n:Nat,EM (Ph n) (Ph (n+1))
 | 0=>fun x _ L S r q=>by cases (show (none:Option (D×aF))=some r from q)
 | 1=>fun x v=>by
  have i:=lv 0;simp only [eQ,av,ey,ee] at v;rcases v with rfl | rfl | rfl | rfl | rfl | rfl | rfl | rfl | rfl | rfl | rfl | rfl | rfl | rfl | rfl | rfl | rfl | rfl | rfl
  .rw [tm,cA 0];exact bA (cv i).1
  .rw [zI,eH 0];exact bA (cv i).2.1
  .rw [tw,gc 0];exact bA (by unfold bM;exact dj)
  .rw [qT,fD 0];exact bA (by unfold dX;exact dj)
  .rw [j7,b6 0];exact bA (by unfold cM;exact dj)
  .rw [iT,b8 0];exact bA (by unfold bw;exact dj)
  .rw [mj,cP 0];exact bA (by unfold ce;exact dj)
  .rw [tu,gb 0];exact bA (by unfold eS;exact dj)
  .rw [uY,gQ 0];exact bA (by unfold fJ;exact dj)
  .rw [tq,eR 0];exact bA (cv i).2.2.2.1
  .rw [ml,cR 0];exact bA (cv i).2.2.1
  .rw [nR,cx 0];exact bA (cv i).2.2.2.2.1
  .rw [oE,cQ 0];exact bA (cv i).2.2.2.2.2.1
  .rw [xt,gI 0];exact bA (cv i).2.2.2.2.2.2.1
  .rw [tt,f_ 0];exact bA (cv i).2.2.2.2.2.2.2.1
  .rw [qU,dW 0];exact bA (cv i).2.2.2.2.2.2.2.2.1
  .rw [qV,fE 0];exact bA (cv i).2.2.2.2.2.2.2.2.2.1
  .rw [uZ,gR 0];exact bA (by unfold fK;exact dj)
  .rw [u0,gS 0];exact bA (cv i).2.2.2.2.2.2.2.2.2.2
 | n+2=>fun x v=>by
  have i:=lv (n+1);simp only [eQ,av,ey,ee] at v;rcases v with rfl | rfl | rfl | rfl | rfl | rfl | rfl | rfl | rfl | rfl | rfl | rfl | rfl | rfl | rfl | rfl | rfl | rfl | rfl
  .rw [cA n,cA (n+1)];exact bA (cv i).1
  .rw [eH n,eH (n+1)];exact bA (cv i).2.1
  .rw [gc n,gc (n+1)];exact bA (by unfold bM;exact dj)
  .rw [fD n,fD (n+1)];exact bA (by unfold dX;exact dj)
  .rw [b6 n,b6 (n+1)];exact bA (by unfold cM;exact dj)
  .rw [b8 n,b8 (n+1)];exact bA (by unfold bw;exact dj)
  .rw [cP n,cP (n+1)];exact bA (by unfold ce;exact dj)
  .rw [gb n,gb (n+1)];exact bA (by unfold eS;exact dj)
  .rw [gQ n,gQ (n+1)];exact bA (by unfold fJ;exact dj)
  .rw [eR n,eR (n+1)];exact bA (cv i).2.2.2.1
  .rw [cR n,cR (n+1)];exact bA (cv i).2.2.1
  .rw [cx n,cx (n+1)];exact bA (cv i).2.2.2.2.1
  .rw [cQ n,cQ (n+1)];exact bA (cv i).2.2.2.2.2.1
  .rw [gI n,gI (n+1)];exact bA (cv i).2.2.2.2.2.2.1
  .rw [f_ n,f_ (n+1)];exact bA (cv i).2.2.2.2.2.2.2.1
  .rw [dW n,dW (n+1)];exact bA (cv i).2.2.2.2.2.2.2.2.1
  .rw [fE n,fE (n+1)];exact bA (cv i).2.2.2.2.2.2.2.2.2.1
  .rw [gR n,gR (n+1)];exact bA (by unfold fK;exact dj)
  .rw [gS n,gS (n+1)];exact bA (cv i).2.2.2.2.2.2.2.2.2.2
theorem Gi (h:n≤w):EM (Ph n) (Ph w):=by
 obtain⟨k,rfl⟩:=Nat.exists_eq_add_of_le h;clear h;induction k with
 | zero=>exact fun _ _=>dj
 | succ k i=>exact fun x v L S r q=>lv (n+k) x v L S r (i x v L S r q)
end My
namespace My
open PySem L2 Ev
variable {m:List P}
theorem Bu (h:cc 20 (.tup m)=true) (x:cc 20 (.tup y)=true):∃b,Ag (.tup m) (.tup y)=some b:=by refine⟨PyData.eqv (pd (.tup m)) (pd (.tup y)),?_⟩;show (if (cc 20 (.tup m) && cc 20 (.tup y))=true then some _ else none)=_;rw [h,x];rfl
theorem A9 (h:cc 20 (.tup m)=true) (x:cc 20 (.tup y)=true):∃b,w4 (.tup m) (.tup y)=some b:=by refine⟨!PyData.eqv (pd (.tup m)) (pd (.tup y)),?_⟩;show (if (cc 20 (.tup m) && cc 20 (.tup y))=true then some _ else none)=_;rw [h,x];rfl
noncomputable abbrev aR (B:BD):P:=.tup [.lst B.fams,.lst B.roads,.lst B.wishes]
noncomputable def iJ (B:BD) (w:P):Prop:=∃p h:Nat,w=.tup [.int (p:Int),.int (h:Int)]/\p < B.wishes.length/\h < (bf B.fams).length
variable {B:BD}{n:Nat}{w:P}
theorem Ce (P:Pln B.fams B.roads B.wishes) (q:2≤n) (hw:iJ B w) (hd:∀d ∈ c,cc 2 d=true):∃b,pureOf (Ph n "done_by") [aR B,w,.tup c]=some (.bl b):=by obtain⟨n,rfl⟩:=fM (n:=n) (by first | assumption | lia);obtain⟨p,h,rfl,a,t⟩:=hw;have g:B.wishes[p]? = some B.wishes[p]:=cG a;obtain⟨k,f,s,_,_,r,x⟩:=P.hw B.wishes[p] (dP _);rw [x] at g;obtain⟨b,e⟩:=Bu (m:=cut c none (some 3)) (y:=[.str "step",.int (h:Int),.str s]) (bq.mpr fun d h=>dU (hd d (gg.1 d h)) (by lia)) (by simp [r]);refine⟨b,?_⟩;rw [gR,ag];simp [fK,aX g,e]
theorem z0:∀{m:List P},(∀x ∈ m,∃b,x=.bl b)->∃s,kJ m=some s
 | [],_=>⟨[],rfl⟩
 | x::m,h=>by obtain⟨b,rfl⟩:=h x List.mem_cons_self;obtain⟨s,e⟩:=z0 (m:=m) fun y a=>h y (aZ _ a);exact⟨b::s,by simp [kJ,e]⟩
variable {a:P}
theorem Hi (E:Pln B.fams B.roads B.wishes) (F:Places B) (hn:14≤n) (U:kP B a) (hw:iJ B w):∃r:Bool,∀(b i:Nat) (S:aF),Bd B b i S->∃t,Ph n "able_on" [.ref i,.p (aR B),.p a,.p w] S=some (.p (.bl r),t)/\Fr b S t:=by
 obtain⟨n,rfl⟩:=fM (n:=n) (by first | assumption | lia);obtain⟨p,h,rfl,hp,V⟩:=id hw;obtain⟨k,s,rfl,K⟩:=U;obtain⟨c,h1,R,T⟩:=Ca E F (n:=n+1) (by lia) (cG V) K;let u:P->P:=fun y=>match y with | .tup (d::_)=>d | _=>.non
 let f:P->P:=fun y=>(pureOf (Ph (n+1) "done_by") [aR B,.tup [.int (p:Int),.int (h:Int)],u y]).getD .non
 have G:∀y ∈ c,∃q a b,y=.tup [.tup q,a]/\f y=.bl b/\pureOf (Ph (n+1) "done_by") [aR B,.tup [.int (p:Int),.int (h:Int)],.tup q]=some (.bl b):=fun y A=>by obtain⟨q,a,rfl,hd,_⟩:=R y A;obtain⟨b,e⟩:=Ce E (n:=n+1) (by lia) hw hd;exact⟨q,a,b,rfl,by simp [f,u,e],e⟩
 obtain⟨J,z⟩:=z0 (m:=c.map f) fun x Y=>by obtain⟨y,A,rfl⟩:=cu.mp Y;obtain⟨_,_,b,_,e,_⟩:=G y A;exact⟨b,e⟩
 refine⟨J.any id,fun b i S C=>?_⟩;obtain⟨d,Z,M,o,I⟩:=T b i S C;obtain⟨j,N,H⟩:=n0 (b:=b) (g:=Ph (n+1) "hand_ends") (q:=ab (aa 0) (ab (aa 2) (ab (eV (ac ar (vv 3) (vi 1))) aY))) (L:=[some (.ref i),qp (aR B),qp (.tup [.tup k,.tup s]),qp (.tup [.int (p:Int),.int (h:Int)])]) (S:=S) (l:=[.ref i,.p (.tup [.tup k,.tup s]),.p (.int (h:Int))]) (by simp) M o C.le I;refine⟨j,?_,H⟩;have O:bo (ak 4) dZ (ah (pureOf (Ph (n+1) "done_by")) (v3 (vv 1) (vv 3) (ac ar (vv 4) (vi 0)))) c [some (.ref i),qp (aR B),qp (.tup [.tup k,.tup s]),qp (.tup [.int (p:Int),.int (h:Int)]),none] j=some (c.map f,j):=by rw [df (p:=fun _=>true) (f:=f) (Inv:=fun L=>∃d,L=[some (.ref i),qp (aR B),qp (.tup [.tup k,.tup s]),qp (.tup [.int (p:Int),.int (h:Int)]),d]) (fun v X L F=>?_) ⟨none,rfl⟩,fI];obtain⟨d,rfl⟩:=F;obtain⟨q,a,b,rfl,l,Q⟩:=G v X;exact⟨[some (.ref i),qp (aR B),qp (.tup [.tup k,.tup s]),qp (.tup [.int (p:Int),.int (h:Int)]),qp (.tup [.tup q,a])],rfl,⟨_,rfl⟩,rfl,fun _=>by rw [l];simp [Q]⟩
 have W:c.length≤1000000:=by lia
 rw [gS];show (match dF _ _ [some (.ref i),qp (aR B),qp (.tup [.tup k,.tup s]),qp (.tup [.int (p:Int),.int (h:Int)])] S with | some (.rt d,_,t)=>some (d,t) | some (.nx,_,t)=>some (.p .non,t) | _=>none)=_;unfold dF;have l:aU (iR (b7 (Ph (n+1) "hand_ends") (ab (aa 0) (ab (aa 2) (ab (eV (ac ar (vv 3) (vi 1))) aY))))) [] 1 (ak 4) dZ (ah (pureOf (Ph (n+1) "done_by")) (v3 (vv 1) (vv 3) (ac ar (vv 4) (vi 0)))) [some (.ref i),qp (aR B),qp (.tup [.tup k,.tup s]),qp (.tup [.int (p:Int),.int (h:Int)])] S=some (.lst (c.map f),j):=by unfold aU;rw [i',N];show (if few c=true then _ else _)=_;rw [if_pos (by rw [lz];exact W),show jC [] 1 [some (D.ref i),qp (aR B),qp (.tup [.tup k,.tup s]),qp (.tup [.int (p:Int),.int (h:Int)])]=[some (D.ref i),qp (aR B),qp (.tup [.tup k,.tup s]),qp (.tup [.int (p:Int),.int (h:Int)]),none] from rfl,O];rfl
 simp only [mI,s_,xV,wD,l];simp [hZ,z]
theorem BO (c:B=uH B.fams B.roads B.wishes) (P:Pln B.fams B.roads B.wishes) (u:16≤n) (q:kP B a) (hw:iJ B w):∃r:Bool,pureOf (Ph n "able") [aR B,a,w]=some (.bl r)/\∀m,n-1≤m->∀(b i:Nat) (S:aF),Bd B b i S->∃h,Ph m "able_on" [.ref i,.p (aR B),.p a,.p w] S=some (.p (.bl r),h)/\Fr b S h:=by
 obtain⟨n,rfl⟩:=fM (n:=n) (by first | assumption | lia);have L:Places B:=by rw [c];exact o9 _ _ _
 obtain⟨r,k⟩:=Hi P L (n:=n+1) (by lia) q hw;refine⟨r,?_,fun m d b i S x=>?_⟩
 .obtain⟨h,t,x⟩:=n2 P (n:=n) (by lia);rw [<- c] at x;obtain⟨v,p,f⟩:=k _ _ _ x;rw [zH,ag];have s:Ph n "Board.__init__" [.ref 0,.p (aR B)] [.ins "Board" [] []]=some (.p .non,h):=t;simp [t5,s,p]
 .obtain⟨h,e,f⟩:=k b i S x;exact⟨h,Gi (show n+1≤m by lia) "able_on" (by simp [eQ]) _ _ _ e,f⟩
theorem GZ (x:B=uH B.fams B.roads B.wishes) (s:Pln B.fams B.roads B.wishes) (i:18≤n) (v:kP B a):∃y:List P,y.length≤40000/\(∀z ∈ y,ja B z)/\pureOf (Ph n "ends_from") [aR B,a]=some (.lst y):=by
 obtain⟨n,rfl⟩:=fM (n:=n) (by first | assumption | lia);have L:Places B:=by rw [x];exact o9 _ _ _
 obtain⟨j,w,rfl,h⟩:=v;obtain⟨y,t,p,q⟩:=GY s L (n:=n+1) (by lia) h;refine⟨y,t,p,?_⟩;obtain⟨S,f,b⟩:=n2 s (n:=n) (by lia);rw [<- x] at b;obtain⟨d,u,c,r,k⟩:=q _ _ _ b;obtain⟨g,m,_⟩:=k.toP r b.le;have e:Ph n "Board.__init__" [.ref 0,.p (aR B)] [.ins "Board" [] []]=some (.p .non,S):=f;rw [oD,ag];simp [jS,e,c,m]
theorem CA (q:Pln B.fams B.roads B.wishes) (hn:4≤n):∃r:List P,r.length≤24/\(∀y ∈ r,iJ B y)/\pureOf (Ph n "wishes_of") [aR B]=some (.lst r):=by
 obtain⟨n,rfl⟩:=fM (n:=n) (by first | assumption | lia);have J:=qK (n:=n+1) (by lia) q.hf q.f0.2 (.lst B.roads) (.lst B.wishes);have h4:=gn q;have T:=jw (f:=B.fams);have W:=q.wl;have V:(homes B.fams).length < 1000000:=by lia
 have F:(homes B.fams).length≤1000000:=by lia
 let t:Option D->Option D->Lc:=fun w u=>[qp (aR B),ql (homes B.fams),some (.ref 0),w,u]
 obtain⟨L',S',e,a,w,u,j,H,rfl,rfl⟩:=cw (g:=bn [ak 3,ak 4]) (b:=fm (Ph (n+1)) (Ph n)) (Inv:=fun i L S=>∃(a:List P) (w u:Option D),a.length≤4 * i/\(∀c ∈ a,iJ B c)/\L=t w u/\S=[.lst (a.map .p)]) (s:=b_ 0 B.wishes) (k:=0) (L:=t none none) (S:=[.lst []]) (fun i v L S K O=>by
  obtain⟨x,G,rfl⟩:=hU K;have U:=bD G;obtain⟨a,w,u,j,H,rfl,rfl⟩:=O;obtain⟨k,f,s,_,_,_,rfl⟩:=q.hw x (bY G);obtain⟨r,M,X,Y⟩:=hX (g:=ak 5) (c:=bV (aE eC (eV (ac ar (ac ar (ac ar (vv 0) (vi 0)) (ac ar (vv 1) (vv 5))) (vi 0))) (eV (ac ar (vv 4) (vi 1))))) (e:=aD (v2 (vv 3) (vv 5))) (Q:=iJ B) (S:=[.lst (a.map .p)]) (s:=intsFrom 0 (homes B.fams).length) (L:=[qp (aR B),ql (homes B.fams),some (.ref 0),qi (i:Int),qp (.tup [.str k,.str f,.str s]),none]) (Inv:=fun L=>∃d,L=[qp (aR B),ql (homes B.fams),some (.ref 0),qi (i:Int),qp (.tup [.str k,.str f,.str s]),d]) (fun v K L R=>by obtain⟨d,rfl⟩:=R;obtain⟨h,rfl,hh⟩:=dC K;simp only [eK];obtain⟨p,N,E⟩:=ly (a:=B.fams) (h:=h) (cG (by lia));obtain⟨Z,c,A,z,I,C,_,o⟩:=jc q.hf (dP (l:=bf B.fams) (n:=h) (by lia));rw [o] at E;exact⟨[qp (aR B),ql (homes B.fams),some (.ref 0),qi (i:Int),qp (.tup [.str k,.str f,.str s]),qi (h:Int)],decide (Z=f),rfl,⟨_,rfl⟩,by simp [aX N,aX E],fun _=>⟨.tup [.int (i:Int),.int (h:Int)],by simp,i,h,rfl,U,by lia⟩⟩) ⟨none,rfl⟩
  rw [bc] at Y;refine⟨t (qi (i:Int)) (qp (.tup [.str k,.str f,.str s])),t (qi (i:Int)) (qp (.tup [.str k,.str f,.str s])),[.lst ((a++r).map .p)],rfl,?_,a++r,_,_,by rw [cV];lia,fun c j=>(dh.mp j).elim (H c) (X c),rfl,rfl⟩;unfold fm;refine jy (k:=0) (w:=a) (y:=r) (e:=[.lst (a.map .p)]) rfl rfl ?_ rfl (by lia);simp [t,aU,cd,cK,V,F,bc,jC,M]) ⟨[],none,none,by simp,fun _ h=>(by cases h),rfl,rfl⟩
 rw [fj] at j;refine⟨a,by lia,H,?_⟩;rw [ow,ag];simp only [t] at e;simp [jO,J,e]
theorem kP.ok (h:kP B a):cc 5 a=true:=by
 obtain⟨f,d,rfl,S⟩:=h;have b:cc 4 (.tup f)=true:=bq.mpr fun x e=>by
  obtain⟨i,k,rfl⟩:=pT.mp e;obtain⟨_,_,_,_,_,_,_,r,n,w,s,_,t,_,hw⟩:=S.hh i _ _ (cG (by rw [<- S.hl];exact k)) (cG k);have o:cc 2 (.tup n)=true:=bq.mpr fun c h=>by obtain⟨i,_,rfl⟩:=t.2 c h;simp
  have q:cc 2 (.tup w)=true:=bq.mpr fun c h=>(hw c h).ok 1;rw [s];show (List.all [_,P.tup n,P.tup w] (cc 2))=true;rw [dw,dw,dw,o,q];simp
 have m:cc 4 (.tup d)=true:=bq.mpr fun x e=>by obtain⟨v,p,rfl⟩:=S.hr.2 x e;exact bq.mpr fun l h=>dU (p.2 l h).ok (by lia)
 show (List.all [P.tup f,P.tup d] (cc 4))=true;rw [dw,dw,b,m];rfl
noncomputable def jb (d:P):Prop:=∃h,d=.tup h/\∀x ∈ h,cc 2 x=true
theorem jb.ok (h:jb d):cc 3 d=true:=by obtain⟨x,rfl,h⟩:=h;exact bq.mpr h
theorem wa (T:B=uH B.fams B.roads B.wishes) (U:Pln B.fams B.roads B.wishes) (W:18≤n) (u:List Int):∀(F:List P),(∀k ∈ F,zi 12 k)->∀(t o:List P),t.length=o.length+1->o.length+F.length≤100->(∀s ∈ t,kP B s)->(∀d ∈ o,jb d)->∀J K m v:Option D,
  ∃(f w:List P) (g j l y:Option D),f.length=w.length+1/\w.length≤o.length+F.length/\(∀s ∈ f,kP B s)/\(∀d ∈ w,jb d) /\
   br (ak 6) (db (Ph n) (Ph (n-1))) F [qp (iQ u),qp (aR B),qi 34,qi 12,some (.ref 0),some (.ref 1),J,K,m,v] [.lst (t.map .p),.lst (o.map .p)]=some (.nx,[qp (iQ u),qp (aR B),qi 34,qi 12,some (.ref 0),some (.ref 1),g,j,l,y],[.lst (f.map .p),.lst (w.map .p)])
 | [],_,t,o,S,_,A,G,J,K,m,v=>⟨t,o,J,K,m,v,S,by simp,A,G,rfl⟩
 | k::F,V,t,o,S,h2,A,G,J,K,m,v=>by
  simp only [bt] at h2;obtain⟨i,hi,rfl⟩:=V k List.mem_cons_self;have O:t≠[]:=fun q=>by rw [q] at S;simp at S
  obtain⟨a,Q,L⟩:=atI_last O;have b:L2.atI (t.map D.p) (-1)=qp a:=by rw [rN,L];rfl
  obtain⟨C,y1,X,M⟩:=GZ T U W (A a Q);have oy:cc 20 (.lst C)=true:=HM fun z R=>by obtain⟨H,s,rfl,hd,N⟩:=X z R;have o1:cc 18 (.tup H)=true:=bq.mpr fun x h=>dU (hd x h) (by lia);have o2:cc 18 s=true:=dU N.ok (by lia);show (List.all [P.tup H,s] (cc 18))=true;rw [dw,dw,o1,o2];rfl
  have E:=qL oy;by_cases I:C=[]
  .refine⟨t,o,qi (i:Int),ql C,m,v,S,by lia,A,G,?_⟩;have e:db (Ph n) (Ph (n-1)) [qp (iQ u),qp (aR B),qi 34,qi 12,some (.ref 0),some (.ref 1),qi (i:Int),K,m,v] [.lst (t.map .p),.lst (o.map .p)]=some (.bk,[qp (iQ u),qp (aR B),qi 34,qi 12,some (.ref 0),some (.ref 1),qi (i:Int),ql C,m,v],[.lst (t.map .p),.lst (o.map .p)]):=by
    rw [I] at M E ⊢;simp [db,b,M,E]
   simp [br,e]
  .rw [aV I] at E;obtain⟨c,r,hr,Y,Z⟩:=iy (n:=n) (by lia) u (k:=34+(i:Int)) (p:=45) (by lia) (by lia) (by lia);obtain⟨z,R,ez⟩:=dG I r;obtain⟨H,s,rfl,hd,N⟩:=X z R;have hl:=len_pos I;obtain⟨f,w,g,j,l,y,k1,k2,k3,k4,e⟩:=wa T U W u F (fun x hx=>V x (aZ _ hx)) (t++[s]) (o++[.tup H]) (by simp [S]) (by simp;lia) (dH A N) (dH G ⟨H,rfl,hd⟩) (qi (i:Int)) (ql C) (qp (.tup H)) (qp s);refine⟨f,w,g,j,l,y,k1,by simp at k2 ⊢;lia,k3,k4,?_⟩;have f1:t.length≤1000000:=by lia
   have f2:o.length≤1000000:=by lia
   refine (cm (L1:=[qp (iQ u),qp (aR B),qi 34,qi 12,some (.ref 0),some (.ref 1),qi (i:Int),K,m,v]) rfl ?_).trans e;rw [<- cO,<- cO];simp [db,b,M,E,Y,Z,cd,cK,hl,ez,dt,f1,f2]
theorem GQ (m:B=uH B.fams B.roads B.wishes) (x:Pln B.fams B.roads B.wishes) (y:20≤n) (f:List Int) (p:kP B (.tup [.tup ((bf B.fams).map gH),.tup (List.replicate B.PR.length (.tup []))])) :
  ∃t r:List P,t.length=r.length+1/\r.length≤12/\(∀s ∈ t,kP B s)/\(∀d ∈ r,jb d)/\pureOf (Ph n "_law_gone") [iQ f,aR B,.int 34,.int 12]=some (.tup [.lst t,.lst r]):=by
 obtain⟨n,rfl⟩:=fM (n:=n) (by first | assumption | lia);have c:=z7 (n:=n+1) (by lia) x;obtain⟨t,r,z,o,H,S,w,a,u,g,e⟩:=wa m x (n:=n+1) (by lia) f (intsFrom 0 12) (fun k v=>by obtain⟨i,rfl,q⟩:=dC v;exact⟨i,q,by simp⟩) [.tup [.tup ((bf B.fams).map gH),.tup (List.replicate B.PR.length (.tup []))]] [] (by simp) (by simp [bc]) (fun s h=>by rw [List.mem_singleton.mp h];exact p) (fun _ h=>(by cases h)) none none none none;rw [bc] at a;refine⟨t,r,w,by simpa using a,u,g,?_⟩;have j:toP 9 (.ref 0) [.lst (t.map .p),.lst (r.map .p)]=some (.lst t,[.fz (.lst t),.lst (r.map .p)]):=fY rfl;have l:toP 9 (.ref 1) [.fz (.lst t),.lst (r.map .p)]=some (.lst r,[.fz (.lst t),.fz (.lst r)]):=fY rfl;rw [qQ,ag];simp only [Nat.add_sub_cancel,List.map_cons,List.map_nil] at e;have b:pureOf (Ph (n+1) "begin") [aR B]=some (.tup [.tup ((bf B.fams).map gH),.tup (List.replicate B.PR.length (.tup []))]):=c;simp [kN,b,e,j,l]
theorem z6 (P:Pln B.fams B.roads B.wishes):kP B (.tup [.tup ((bf B.fams).map gH),.tup (List.replicate B.PR.length (.tup []))]):=by refine⟨_,_,rfl,by simp,fun k f x n b=>?_,by simp,fun r q=>⟨[],⟨by simp,fun _ h=>(by cases h)⟩,(pS.mp q).2⟩⟩;rw [List.getElem?_map,n] at b;cases b;obtain⟨v,a,m,e,o,s,F,rfl⟩:=jc P.hf (bY n);refine⟨v,a,m,e,o,s,rfl,0,e.map nJ,List.replicate o.length (.int (-1)),rfl,len_pos F.r0,⟨by simp,fun c p=>?_⟩,by simp,fun w hw=>⟨_,(pS.mp hw).2⟩⟩;obtain⟨d,hd,rfl⟩:=cu.mp p;obtain⟨x,lo,l,t,_,u,g,i,j,rfl⟩:=F.hce.1 d hd;exact⟨t,by lia,rfl⟩
theorem zG (a b:Bool):PyData.eqv (.bool a) (.bool b)=decide (a=b):=by cases a <;> cases b <;> simp [PyData.eqv]
theorem zp (s:List Bool) (b:Bool):Ew (.bl b) (.lst (s.map .bl))=some (s.any fun r=>decide (r=b)):=by show (if ((s.map P.bl).all (cc 19) && cc 19 (.bl b))=true then some ((s.map P.bl).any fun y=>PyData.eqv (pd y) (pd (.bl b))) else none)=_;rw [if_pos (by rw [Bool.and_eq_true];exact⟨bq.mpr fun x h=>by obtain⟨r,_,rfl⟩:=cu.mp h;rfl,rfl⟩),List.any_map];exact congrArg some (congrArg (fun f=>s.any f) (funext fun r=>zG r b))
theorem BM (s:List Bool):(s.any fun r=>decide (r=true))=s.any id:=by congr 1;funext r;cases r <;> rfl
theorem BN (s:List Bool):(s.any fun r=>decide (r=false))=!s.all id:=by
 induction s with
 | nil=>rfl
 | cons r s i=>rw [e_,dw,i];cases r <;> simp
theorem pf (a:Pln B.fams B.roads B.wishes) (c:2≤n) (hw:iJ B w):∀{r:List P},(∀d ∈ r,jb d)->∃s:List Bool,s.length=r.length/\∀(k:Nat) (d:P),r[k]? = some d->∃b,s[k]? = some b/\pureOf (Ph n "done_by") [aR B,w,d]=some (.bl b)
 | [],_=>⟨[],rfl,fun k d h=>by simp at h⟩
 | d::r,h=>by
  obtain⟨q,rfl,hd⟩:=h d List.mem_cons_self;obtain⟨b,e⟩:=Ce a c hw hd;obtain⟨s,m,t⟩:=pf a c hw (r:=r) fun x p=>h x (aZ _ p);refine⟨b::s,by simp [m],fun k d f=>?_⟩;cases k with
  | zero=>cases f;exact⟨b,rfl,e⟩
  | succ k=>exact t k d (by simpa using f)
theorem pF (c:B=uH B.fams B.roads B.wishes) (p:Pln B.fams B.roads B.wishes) (v:16≤n) (hw:iJ B w):∀{t:List P},(∀s ∈ t,kP B s)->∃a:List Bool,a.length=t.length/\∀(k:Nat) (s:P),t[k]? = some s->∃r,a[k]? = some r/\pureOf (Ph n "able") [aR B,s,w]=some (.bl r)/\∀m,n-1≤m->∀(b i:Nat) (S:aF),Bd B b i S->∃f,Ph m "able_on" [.ref i,.p (aR B),.p s,.p w] S=some (.p (.bl r),f)/\Fr b S f
 | [],_=>⟨[],rfl,fun k d h=>by simp at h⟩
 | s::t,h=>by
  obtain⟨r,e⟩:=BO c p v (h s List.mem_cons_self) hw;obtain⟨a,u,g⟩:=pF c p v hw (t:=t) fun x j=>h x (aZ _ j);refine⟨r::a,by simp [u],fun k d q=>?_⟩;cases k with
  | zero=>cases q;exact⟨r,rfl,e⟩
  | succ k=>exact g k d (by simpa using q)
theorem jz {g:iK}{e:EV}{p:Lc->Prop}{Sp:aF->Prop}:∀{m n:List P}{L:Lc}{S:aF},n.length=m.length->(∀(k:Nat) (x y:P) (L:Lc) (S:aF),m[k]? = some x->n[k]? = some y->p L->Sp S->∃s c,g x L=some s/\p s/\Sp c/\e s S=some (y,c))->p L->Sp S->∃f,bo g dZ e m L S=some (n,f)/\Sp f
 | [],[],L,S,_,_,_,t=>⟨S,rfl,t⟩
 | [],_::_,_,_,h,_,_,_=>by simp at h
 | _::_,[],_,_,h,_,_,_=>by simp at h
 | x::m,y::n,L,S,h,d,z,t=>by obtain⟨s,c,w,r,v,u⟩:=d 0 x y L S rfl rfl z t;obtain⟨f,i,q⟩:=jz (m:=m) (n:=n) (L:=s) (S:=c) (by simpa using h) (fun k a b L S j l=>d (k+1) a b L S (by simpa using j) (by simpa using l)) r v;exact⟨f,by simp [bo,w,u,i],q⟩
theorem vd {s:List Bool}{k:Nat}{y:P} (h:(s.map P.bl)[k]? = some y):∃b,s[k]? = some b/\y=.bl b:=by
 rw [List.getElem?_map] at h;cases e:s[k]? with
 | none=>rw [e] at h;cases h
 | some b=>rw [e] at h;cases h;exact⟨b,rfl,rfl⟩
theorem tz {B:BD}{m v:Str->GF}{w s a:P}:∀{r:List P}{f:List Bool},f.length=r.length->(∀(k:Nat) (d:P),r[k]? = some d->∃b,f[k]? = some b/\pureOf (m "done_by") [aR B,w,d]=some (.bl b))->∀c n:Option D,∃L q,br (ak 4) (eU m v) r [qp (aR B),qp w,qp s,qp a,c,n] []=if f.any id=true then some (.rt (.p (.bl true)),L,[]) else some (.nx,[qp (aR B),qp w,qp s,qp a,q,n],[])
 | [],[],_,_,c,n=>⟨[],c,rfl⟩
 | [],_::_,h,_,_,_=>by simp at h
 | _::_,[],h,_,_,_=>by simp at h
 | d::r,b::f,h,p,c,n=>by
  obtain⟨i,u,t⟩:=p 0 d rfl;cases u;cases b with
  | true=>refine⟨[qp (aR B),qp w,qp s,qp a,qp d,n],c,?_⟩;rw [if_pos (by simp)];exact nK rfl (by simp [eU,t])
  | false=>obtain⟨L,q,e⟩:=tz (B:=B) (m:=m) (v:=v) (w:=w) (s:=s) (a:=a) (r:=r) (f:=f) (by simpa using h) (fun k x g=>p (k+1) x (by simpa using g)) (qp d) n;refine⟨L,q,?_⟩;rw [e_,id,mF,<- e];exact cm rfl (by simp [eU,t])
theorem xu {B:BD} (hB:B=uH B.fams B.roads B.wishes) (T:Pln B.fams B.roads B.wishes) {n:Nat} (hn:20≤n) {w:P} (hw:iJ B w) {t o:List P} (hs:∀s ∈ t,kP B s) (hr:∀d ∈ o,jb d) (hsl:t.length≤1000) (hrl:o.length≤1000) :
  ∃r,pureOf (Ph n "_law_due") [aR B,w,.lst t,.lst o]=some (.bl r)/\pureOf (Ph n "keeps") [aR B,w,.lst t,.lst o]=some (.bl r):=by
 obtain⟨n,rfl⟩:=fM (n:=n) (by first | assumption | lia);obtain⟨R,C,E⟩:=pf T (n:=n+1) (by lia) hw hr;obtain⟨i,J,M⟩:=pF hB T (n:=n+1) (by lia) hw hs;obtain⟨p,h,rfl,hp,hh⟩:=id hw;have I:B.wishes[p]? = some B.wishes[p]:=cG hp;obtain⟨kd,f,s,X,_,_,Y⟩:=T.hw B.wishes[p] (dP _);rw [Y] at I;let w:P:=.tup [.int (p:Int),.int (h:Int)]
 have q:t.length≤1000000:=by lia
 have l:o.length≤1000000:=by lia
 obtain⟨L1,H,j⟩:=tz (B:=B) (m:=Ph (n+1)) (v:=Ph n) (w:=w) (s:=.lst t) (a:=.lst o) C E none none;have F:bo (ak 6) dZ (ah (pureOf (Ph (n+1) "done_by")) (v3 (vv 0) (vv 1) (vv 6))) o [qp (aR B),qp w,ql t,ql o,none,none,none] []=some (R.map .bl,[]):=by
  obtain⟨z,e,a⟩:=jz (g:=ak 6) (e:=ah (pureOf (Ph (n+1) "done_by")) (v3 (vv 0) (vv 1) (vv 6))) (p:=fun L=>∃d,L=[qp (aR B),qp w,ql t,ql o,none,none,d]) (Sp:=fun S=>S=[]) (m:=o) (n:=R.map .bl) (L:=[qp (aR B),qp w,ql t,ql o,none,none,none]) (S:=[]) (by simp [C]) (fun k x y L S N O K a=>by obtain⟨d,rfl⟩:=K;subst a;obtain⟨b,Q,rfl⟩:=vd O;obtain⟨b',u,Z⟩:=E k x N;rw [Q] at u;cases u;exact⟨[qp (aR B),qp w,ql t,ql o,none,none,qp x],[],rfl,⟨_,rfl⟩,rfl,by simp [w,Z]⟩) ⟨none,rfl⟩ rfl
  rw [e,a]
 by_cases A:R.any id=true
 .refine⟨true,?_,?_⟩
  .rw [if_pos A] at j;rw [jg,ag];simp only [w] at j;simp [gW,j]
  .rw [lC,ag];simp only [w] at F;simp [jA,aU,l,jC,F,hZ,kO];simp at A;simp [A]
 .rw [if_neg A] at j;have v:R.any id=false:=by simpa using A
  have U:∀H:Option D,bo (ak 6) dZ (ah (pureOf (Ph (n+1) "able")) (v3 (vv 0) (vv 6) (vv 1))) t [qp (aR B),qp w,ql t,ql o,H,none,none] []=some (i.map .bl,[]):=fun H=>by
   obtain⟨z,e,a⟩:=jz (g:=ak 6) (e:=ah (pureOf (Ph (n+1) "able")) (v3 (vv 0) (vv 6) (vv 1))) (p:=fun L=>∃d,L=[qp (aR B),qp w,ql t,ql o,H,none,d]) (Sp:=fun S=>S=[]) (m:=t) (n:=i.map .bl) (L:=[qp (aR B),qp w,ql t,ql o,H,none,none]) (S:=[]) (by simp [J]) (fun k x y L S N O K a=>by obtain⟨d,rfl⟩:=K;subst a;obtain⟨b,Q,rfl⟩:=vd O;obtain⟨b',u,Z,_⟩:=M k x N;rw [Q] at u;cases u;exact⟨[qp (aR B),qp w,ql t,ql o,H,none,qp x],[],rfl,⟨_,rfl⟩,rfl,by simp [w,Z]⟩) ⟨none,rfl⟩ rfl
   rw [e,a]
  obtain⟨z,eb,G⟩:=n2 T (n:=n) (by lia);rw [<- hB] at G;have c:Ph n "Board.__init__" [.ref 0,.p (aR B)] [.ins "Board" [] []]=some (.p .non,z):=eb;obtain⟨S2,V,_⟩:=jz (g:=ak 6) (e:=b7 (Ph (n+1) "able_on") (ab (aa 4) (ab (aa 0) (ab (aa 6) (ab (aa 1) aY))))) (p:=fun L=>∃d,L=[qp (aR B),qp w,ql t,ql o,some (.ref 0),none,d]) (Sp:=fun S=>Bd B z.length 0 S) (m:=t) (n:=i.map .bl) (L:=[qp (aR B),qp w,ql t,ql o,some (.ref 0),none,none]) (S:=z) (by simp [J]) (fun k x y L S N O K a=>by obtain⟨d,rfl⟩:=K;obtain⟨b,Q,rfl⟩:=vd O;obtain⟨b',u,_,k4⟩:=M k x N;rw [Q] at u;cases u;obtain⟨S3,e5,fr⟩:=k4 (n+1) (by lia) _ _ _ a;obtain⟨S4,e6,W⟩:=wr (b:=z.length) (g:=Ph (n+1) "able_on") (q:=ab (aa 4) (ab (aa 0) (ab (aa 6) (ab (aa 1) aY)))) (L:=[qp (aR B),qp w,ql t,ql o,some (.ref 0),none,qp x]) (S:=S) (l:=[.ref 0,.p (aR B),.p x,.p w]) rfl e5 fr;exact⟨[qp (aR B),qp w,ql t,ql o,some (.ref 0),none,qp x],S4,rfl,⟨_,rfl⟩,a.fr W,e6⟩) ⟨none,rfl⟩ G
  have i1:=zp i true;have i2:=zp i false;rw [BM] at i1;rw [BN] at i2;have dk:∀S:aF,jM (.p (.lst (i.map .bl))) S=none:=fun _=>rfl;simp only [w] at j F U V;rcases X with rfl | rfl
  .refine⟨!i.all id,?_,?_⟩
   .rw [jg,ag];simp [gW,j,aU,q,jC,U,aX I,Af,Ae,dk,i2]
   .rw [lC,ag];simp [jA,aU,q,l,jC,F,hZ,kI,kO,c];simp at v;simp [v,c,q,V,aX I,kO,kI,hZ]
  .refine⟨!i.any id,?_,?_⟩
   .rw [jg,ag];simp [gW,j,aU,q,jC,U,aX I,jd,Ae,dk,i1]
   .rw [lC,ag];simp [jA,aU,q,l,jC,F,hZ,kI,kO,c];simp at v;simp [v,c,q,V,aX I,kO,kI,hZ]
theorem kD {g:iK}{b:ES}{Inv:Lc->Prop}{S:aF}:∀{m:List P}{L:Lc},(∀v ∈ m,∀L,Inv L->∃a L2 f,g v L=some a/\b a S=some (f,L2,S)/\(f=.nx\/f=.ct)/\Inv L2)->Inv L->∃x,br g b m L S=some (.nx,x,S)/\Inv x
 | [],L,_,h=>⟨L,rfl,h⟩
 | v::r,L,c,h=>by
  obtain⟨a,L2,f,e,s,p,t⟩:=c v List.mem_cons_self L h;obtain⟨x,n,k⟩:=kD (m:=r) (L:=L2) (fun w hw=>c w (aZ _ hw)) t;rcases p with rfl | rfl
  .exact⟨x,(cm e s).trans n,k⟩
  .exact⟨x,(zC e s).trans n,k⟩
theorem yt (h:x ∈ jJ m i j c):x ∈ m:=by unfold jJ at h;obtain⟨k,_,e⟩:=mV.mp h;exact bY e
theorem DS {n:Nat} (hn:30≤n) (U:List Int):pureOf (Ph n "law") [iQ U]=some (.bl true):=by
 obtain⟨n,rfl⟩:=fM (n:=n) (by first | assumption | lia);obtain⟨z,j,i,O,ep⟩:=AW (n:=n+1) (by lia) U;generalize u:uH z j i=B;have hf:B.fams=z:=by rw [<- u];rfl
 have hr:B.roads=j:=by rw [<- u];rfl
 have hw:B.wishes=i:=by rw [<- u];rfl
 have hB:B=uH B.fams B.roads B.wishes:=by rw [hf,hr,hw,u]
 rw [<- hf,<- hr,<- hw] at O ep;clear u hf hr hw;obtain⟨k,o,hl,hrl,G,hde,eg⟩:=GQ hB O (n:=n+1) (by lia) U (z6 O);obtain⟨W,hW1,hW2,eW⟩:=CA O (n:=n+1) (by lia);let x:Option D->Option D->Option D->Option D->Option D->Option D->Lc:=fun V y w p f q=>[qp (iQ U),qp (aR B),ql k,ql o,V,y,w,p,f,q]
 obtain⟨L',e3,_⟩:=kD (g:=ak 4) (b:=j8 (Ph (n+1)) (Ph n)) (Inv:=fun L=>∃V y w p f q,L=x V y w p f q) (S:=[]) (m:=intsFrom 0 o.length) (L:=x none none none none none none) (fun v Q L N=>by
  obtain⟨a,rfl,ha⟩:=dC Q;obtain⟨V,y,w,p,f,q,rfl⟩:=N;simp only [eK];obtain⟨L',e2,q5',q6',I,J,M,rfl⟩:=kD (g:=ak 5) (b:=iD (Ph (n+1)) (Ph n)) (Inv:=fun L=>∃y w p f q,L=x (qi (a:Int)) y w p f q) (S:=[]) (m:=intsFrom ((a:Int)+1) ((o.length:Int)+1-((a:Int)+1)).toNat) (L:=x (qi (a:Int)) y w p f q) (fun v Q L N=>by
   obtain⟨t,rfl,ht⟩:=dC Q;obtain⟨y,w,p,f,q,rfl⟩:=N;obtain⟨e,rfl⟩:∃e:Nat,e=a+1+t:=⟨_,rfl⟩;have hee:((a:Int)+1+(t:Int))=((a+1+t:Nat):Int):=by lia
   rw [hee];generalize hE:a+1+t=e;have heb:e≤o.length:=by lia
   have ga:k[a]? = some (k[a]'(by lia)):=cG (by lia);have ge:k[e]? = some (k[e]'(by lia)):=cG (by lia);have C:=G _ (dP (l:=k) (n:=a) (by lia));have E:=G _ (dP (l:=k) (n:=e) (by lia));generalize k[a]'(by lia)=sa at ga C;generalize k[e]'(by lia)=se at ge E;obtain⟨cn,X⟩:∃c,w4 sa se=some c:=by have o1:=dU C.ok (show 5≤20 by lia);have o2:=dU E.ok (show 5≤20 by lia);obtain⟨_,_,rfl,_⟩:=C;obtain⟨_,_,rfl,_⟩:=E;exact A9 o1 o2
   obtain⟨c1,H⟩:∃c,jd (.p (.int ((e:Int)-(a:Int)))) (.p (.lst [.int 1,.int 3])) []=some (.bl c):=⟨_,rfl⟩;obtain⟨c,ec⟩:∃c,(gi (bV (aE jd (eV (ac tL (vv 5) (vv 4))) (eV (a_ (v2 (vi 1) (vi 3)))))) (wv (bV (ac Cf (vv 4) (vi 2))) (bV (aE ou (eV (ac ar (vv 2) (vv 4))) (eV (ac ar (vv 2) (vv 5))))))) (x (qi (a:Int)) (qi (e:Int)) w p f q) []=some (c,[]):=by
    cases c1 with
    | false=>exact⟨false,by simp [x,H]⟩
    | true=>
     by_cases T:(2:Int) < (a:Int)
     .exact⟨true,by simp [x,H,T]⟩
     .exact⟨cn,by simp [x,H,T,aX ga,aX ge,X]⟩
   cases c with
   | true=>refine⟨x (qi (a:Int)) (qi (e:Int)) w p f q,x (qi (a:Int)) (qi (e:Int)) w p f q,.ct,rfl,?_,.inr rfl,⟨_,_,_,_,_,rfl⟩⟩;unfold iD;rw [mH,ip,ec];rfl
   | false=>
    have Y:∀s ∈ cut k (some (a:Int)) (some (e:Int)),kP B s:=fun s h=>G s (gg.1 s h);have Z:∀d ∈ cut o (some (a:Int)) (some (e:Int)),jb d:=fun d h=>hde d (gg.1 d h);have lA:(cut k (some (a:Int)) (some (e:Int))).length≤1000:=aQ gg.2 (by lia);have lR:(cut o (some (a:Int)) (some (e:Int))).length≤1000:=aQ gg.2 (by lia);generalize F:cut k (some (a:Int)) (some (e:Int))=A at Y lA;generalize K:cut o (some (a:Int)) (some (e:Int))=R at Z lR;have oAR:cc 20 (.lst [.lst A,.lst R])=true:=by have o1:cc 19 (.lst A)=true:=HM fun s h=>dU (Y s h).ok (by lia);have o2:cc 19 (.lst R)=true:=HM fun s h=>dU (Z s h).ok (by lia);show (List.all [P.lst A,P.lst R] (cc 19))=true;rw [dw,dw,o1,o2];rfl
    have nAR:=yQ oAR;obtain⟨L',e1,I,J,M,rfl⟩:=kD (g:=ak 7) (b:=j9 (Ph (n+1)) (Ph n)) (Inv:=fun L=>∃p f q,L=x (qi (a:Int)) (qi (e:Int)) (ql [.lst A,.lst R]) p f q) (S:=[]) (m:=jJ W (some ((a:Int) % 3)) none (some 3)) (L:=x (qi (a:Int)) (qi (e:Int)) (ql [.lst A,.lst R]) p f q) (fun v Q L N=>by obtain⟨p,f,q,rfl⟩:=N;obtain⟨r,ed,ek⟩:=xu hB O (n:=n+1) (by lia) (hW2 v (yt Q)) Y Z lA lR;refine⟨x (qi (a:Int)) (qi (e:Int)) (ql [.lst A,.lst R]) (qp v) f q,x (qi (a:Int)) (qi (e:Int)) (ql [.lst A,.lst R]) (qp v) (qp (.bl r)) (qp (.bl r)),.nx,rfl,?_,.inl rfl,⟨_,_,_,rfl⟩⟩;unfold j9;rw [aB (e:=x (qi (a:Int)) (qi (e:Int)) (ql [.lst A,.lst R]) (qp v) (qp (.bl r)) q) (b:=[]) (by simp [x,F,K,ed])];rw [aB (e:=x (qi (a:Int)) (qi (e:Int)) (ql [.lst A,.lst R]) (qp v) (qp (.bl r)) (qp (.bl r))) (b:=[]) (by simp [x,ek])];rw [aB (e:=x (qi (a:Int)) (qi (e:Int)) (ql [.lst A,.lst R]) (qp v) (qp (.bl r)) (qp (.bl r))) (b:=[]) (by simp [x,jE,CH])];simp [x,F,K,nAR]) ⟨_,_,_,rfl⟩
    refine⟨x (qi (a:Int)) (qi (e:Int)) w p f q,x (qi (a:Int)) (qi (e:Int)) (ql [.lst A,.lst R]) I J M,.nx,rfl,?_,.inl rfl,⟨_,_,_,_,_,rfl⟩⟩;unfold iD;rw [aB (e:=x (qi (a:Int)) (qi (e:Int)) w p f q) (b:=[]) (by rw [ip,ec];rfl)];rw [aB (e:=x (qi (a:Int)) (qi (e:Int)) (ql [.lst A,.lst R]) p f q) (b:=[]) (by simp [x,F,K])];simp only [x] at e1;simp [x,eW,e1]) ⟨_,_,_,_,_,rfl⟩
  refine⟨x (qi (a:Int)) y w p f q,x (qi (a:Int)) q5' q6' I J M,.nx,rfl,?_,.inl rfl,⟨_,_,_,_,_,_,rfl⟩⟩;have h1:((a:Int)+1).natAbs < 1000000:=by lia
  have T:((o.length:Int)+1).natAbs < 1000000:=by lia
  simp only [x] at e2;unfold j8;rw [eO,Bk];simp [x,cd,cK,h1,T,e2]) ⟨_,_,_,_,_,_,rfl⟩
 have hq:o.length < 1000000:=by lia
 rw [Bv,ag];simp only [x] at e3;simp [wu,ep,eg,cd,cK,hq,e3]
theorem y3 {s:List Int} (l:s.length≤63) (O:xI H) (S:gL K H h (s.map V.int)):oj K (Hj Gv Att Tb 200 "law") [.ref h] H (fun v _=>v=.bl true) (fun _ _ _=>False):=by have e:=DS (n:=200) (by decide) s;unfold Ph at e;exact DT O S e
end My
namespace PySem.W.Fast
def tw10591546077694386566:Unit:=()
def tw9740629009687679691:Unit:=()
def tw16775059083831176280:Unit:=()
def tw4250541303415960518:Unit:=()
def tw10415226369772121150:Unit:=()
def tw7318254928360112542:Unit:=()
def tw9725017683723163995:Unit:=()
def tw12643015560662634565:Unit:=()
def tw6002786993072209244:Unit:=()
def tw2132485948329407374:Unit:=()
def tw17970024195519891124:Unit:=()
def tw15918027170716799164:Unit:=()
def tw9235713308783029027:Unit:=()
def tw17239157495376287138:Unit:=()
def tw12464921405291032877:Unit:=()
def tw7639264365749561450:Unit:=()
def tw3770956895948306758:Unit:=()
def tw14000293360399030738:Unit:=()
def tw11338598533100661481:Unit:=()
def tw18029798062986178695:Unit:=()
def tw16826426939045238127:Unit:=()
def tw3782803202423519755:Unit:=()
def tw10469262103230572386:Unit:=()
def tw15478363389411434273:Unit:=()
def tw9822838359925348282:Unit:=()
def tw4215208638935868359:Unit:=()
def tw18280124051134056626:Unit:=()
def tw13225528660642518128:Unit:=()
def tw9843544193001003082:Unit:=()
def tw10999495637170271768:Unit:=()
def tw10826189394266339453:Unit:=()
def tw430573686009064739:Unit:=()
def tw1871629044897528967:Unit:=()
def tw3293333660046830964:Unit:=()
def tw15959674749167082131:Unit:=()
def tw9618074416789887592:Unit:=()
def tw2772752839319471361:Unit:=()
def tw8138391137853863829:Unit:=()
def tw802366145591349009:Unit:=()
def tw7757646587513607326:Unit:=()
def tw13568960065513235853:Unit:=()
def tw15969068766707305493:Unit:=()
def tw3971646284613923011:Unit:=()
def tw9027455605048366654:Unit:=()
def tw2248482550708816923:Unit:=()
def tw10063087337891095434:Unit:=()
def tw13642467185838365635:Unit:=()
def tw4289357910876416825:Unit:=()
def tw7017201565683872325:Unit:=()
def tw616925165674805155:Unit:=()
def tw8410369982917455545:Unit:=()
def tw991156319160129816:Unit:=()
def tw13231936650551274148:Unit:=()
def tw17480873001165229241:Unit:=()
def tw14023461235140803607:Unit:=()
def tw1333501306071759003:Unit:=()
def tw3478323791532347505:Unit:=()
def tw10635584972310139581:Unit:=()
def tw14629891690606848998:Unit:=()
def tw2957786481095639675:Unit:=()
def tw7101035244864531401:Unit:=()
def tw15618685948368998976:Unit:=()
def tw5421610702797416008:Unit:=()
def tw10098211460732506810:Unit:=()
def tw4339771756629995522:Unit:=()
def tw17539088239301410349:Unit:=()
def tw7882255200357064566:Unit:=()
def tw8467444486004379993:Unit:=()
def tw1443075190085855700:Unit:=()
def tw15347578319125866964:Unit:=()
def tw12766400960576089833:Unit:=()
def tw17567050646634194632:Unit:=()
def tw3931497954813935619:Unit:=()
def tw5903578562972147146:Unit:=()
def tw18040833343274284496:Unit:=()
def tw15298990721607787166:Unit:=()
def tw2373247750202295395:Unit:=()
def tw188833941463366856:Unit:=()
def tw16230944856521740269:Unit:=()
def tw17802996981106745883:Unit:=()
def tw9180401749076840706:Unit:=()
def tw15587747251522418288:Unit:=()
def tw14586671359042637112:Unit:=()
def tw15822436461570132932:Unit:=()
def tw14889960928277792570:Unit:=()
def tw9092925893816122454:Unit:=()
def tw163824589238654454:Unit:=()
def tw18244768184956839588:Unit:=()
def tw1217571774369208011:Unit:=()
def tw6526830826936915762:Unit:=()
def tw10264148958831260944:Unit:=()
def tw7631722474560993586:Unit:=()
def tw2317343944714143327:Unit:=()
def tw14803109281263873155:Unit:=()
def tw2400795245288135378:Unit:=()
def tw3897230895664453998:Unit:=()
def tw3372507324366759669:Unit:=()
def tw3279703124532966732:Unit:=()
def tw8183797900773677595:Unit:=()
def tw3936834348065459432:Unit:=()
def tw2377966214272800551:Unit:=()
def tw2572131078542012691:Unit:=()
def tw7167462662729403780:Unit:=()
def tw15181068567059189792:Unit:=()
def tw5932942067403034073:Unit:=()
def tw11301536768331916443:Unit:=()
def tw6386409383005834400:Unit:=()
def tw15146429392769413875:Unit:=()
def tw2005711332991002582:Unit:=()
def tw10535981014301631099:Unit:=()
def tw8542295877113204503:Unit:=()
def tw7035782574942333406:Unit:=()
def tw2801386673156380218:Unit:=()
def tw4982506364971850525:Unit:=()
def tw13160211338683942203:Unit:=()
def tw7861474461346722163:Unit:=()
def tw9247057889870969512:Unit:=()
def tw9823516277954435880:Unit:=()
def tw16880177864003852808:Unit:=()
def tw13853175736266398907:Unit:=()
def tw3045843343125122076:Unit:=()
def tw8309692128628018314:Unit:=()
def tw11479904903412729342:Unit:=()
def tw9892854827050857366:Unit:=()
def tw15243821699427619922:Unit:=()
def tw15637892670257558375:Unit:=()
def tw14559732233093789010:Unit:=()
def tw17663867692680243634:Unit:=()
def tw16598939437946980722:Unit:=()
def tw5321502921971311608:Unit:=()
def tw13320784026436205354:Unit:=()
def tw5239783950864546080:Unit:=()
def tw15624403657441848506:Unit:=()
def tw7610463950454562945:Unit:=()
def tw17661667455091424269:Unit:=()
def tw14711427863495024745:Unit:=()
def tw10505048396835252507:Unit:=()
def tw7171418222982512109:Unit:=()
def tw13625952520505733685:Unit:=()
def tw4609175514187490306:Unit:=()
def tw618429636461867462:Unit:=()
def tw839152715216057525:Unit:=()
def tw2404574593853461941:Unit:=()
def tw11141669030102723300:Unit:=()
def tw18005926402757532138:Unit:=()
def tw7416961563480386602:Unit:=()
def tw16886556111587892670:Unit:=()
def tw4258705479944827097:Unit:=()
def tw7375151166855447334:Unit:=()
def tw10979751120003283382:Unit:=()
def tw470370244882999213:Unit:=()
def tw5202879510764366885:Unit:=()
def tw16402683458106045772:Unit:=()
def tw16334990170493519737:Unit:=()
def tw2888471946518437020:Unit:=()
def tw17394031243295350663:Unit:=()
def tw13083531835028662375:Unit:=()
def tw497249173702465851:Unit:=()
def tw16799068023151238663:Unit:=()
def tw2404056892025912812:Unit:=()
def tw2202871325686071077:Unit:=()
def tw15272320597181314486:Unit:=()
def tw2058515972548593754:Unit:=()
def tw16847094980076309504:Unit:=()
def tw12098255454405940580:Unit:=()
def tw2107028661158667673:Unit:=()
def tw6237421131674539515:Unit:=()
def tw18218638207621424151:Unit:=()
def tw8624973548717313452:Unit:=()
def tw6955605121033141833:Unit:=()
def tw12808026753859099842:Unit:=()
def tw9692799046392666575:Unit:=()
def tw1539193266736726838:Unit:=()
def tw700369538792095880:Unit:=()
def tw8082965348969628771:Unit:=()
def tw5744145566667439099:Unit:=()
def tw5265711259557054752:Unit:=()
def tw6735327313700062861:Unit:=()
def tw5799748616265489273:Unit:=()
def tw840316458333902765:Unit:=()
def tw5670359298983681100:Unit:=()
def tw3295462215157856841:Unit:=()
def tw11690565054951928170:Unit:=()
def tw478315032248560989:Unit:=()
def tw7645597870508434560:Unit:=()
end PySem.W.Fast
open PySem PySem.W PyProof.Rows
set_option maxRecDepth 100000 in
set_option maxHeartbeats 0 in
theorem PySem.Challenge.cw_roadsall_k32_rounds_that_keep_wishes_holds : PySem.Challenge.rw_roadsall_k32_rounds_that_keep_wishes.Holds := by
 w_on;o_law;k_head;(case hw=>w_witness2)
 k_fill
 refine L2.xT (l:=PySem.Challenge.rw_roadsall_k32_rounds_that_keep_wishes) (n:=63) (k:=200) (x:="_law_script") (CX:=L2.pG) (sp:=fun K=>Ev.oj K (Ev.Hj My.Gv My.Att My.Tb 200 "law")) rfl (by decide) rfl ⟨rfl,by decide,by decide⟩ (fun w h Y=>PySem.W.kIn_of Y) ?F ?S ?C
 case F=>
  intro w mg fa h KX G hmg
  have T:Ev.TOk w My.Gv My.Att My.Tb (L2.KA KX) mg:=by
   dsimp only [L2.KA]
   refine' My.Ei KX G ?ca0 ?cb0 ?cc0 ?cd0' ?ce0 ?cf0 ?cg0 ?na0_0 ?na0_1 ?na0_2 ?na0_3 ?na0_4 ?a0 ?l0 ?c0 ?k0 ?a1 ?l1 ?c1 ?k1 ?a2 ?l2 ?c2 ?k2 ?a3 ?l3 ?c3 ?k3 ?a4 ?l4 ?c4 ?k4 ?a5 ?l5 ?c5 ?k5 ?a6 ?l6 ?c6 ?k6 ?a7 ?l7 ?c7 ?k7 ?a8 ?l8 ?c8 ?k8 ?a9 ?l9 ?c9 ?k9 ?a10 ?l10 ?c10 ?k10 ?a11 ?l11 ?c11 ?k11 ?a12 ?l12 ?c12 ?k12 ?a13 ?l13 ?c13 ?k13 ?a14 ?l14 ?c14 ?k14 ?a15 ?l15 ?c15 ?k15 ?a16 ?l16 ?c16 ?k16 ?a17 ?l17 ?c17 ?k17 ?a18 ?l18 ?c18 ?k18 ?a19 ?l19 ?c19 ?k19 ?a20 ?w20 ?l20 ?c20 ?k20 ?a21 ?l21 ?c21 ?k21 ?a22 ?l22 ?c22 ?k22 ?a23 ?l23 ?c23 ?k23 ?a24 ?l24 ?c24 ?k24 ?a25 ?w25 ?l25 ?c25 ?k25 ?a26 ?l26 ?c26 ?k26 ?a27 ?l27 ?c27 ?k27 ?a28 ?l28 ?c28 ?k28 ?a29 ?l29 ?c29 ?k29 ?a30 ?l30 ?c30 ?k30 ?a31 ?l31 ?c31 ?k31 ?a32 ?l32 ?c32 ?k32 ?a33 ?l33 ?c33 ?k33 ?a34 ?l34 ?c34 ?k34 ?a35 ?w35 ?l35 ?c35 ?k35 ?a36 ?l36 ?c36 ?k36 ?a37 ?l37 ?c37 ?k37 ?a38 ?l38 ?c38 ?k38 ?a39 ?l39 ?c39 ?k39 ?a40 ?l40 ?c40 ?k40 ?a41 ?l41 ?c41 ?k41 ?a42 ?l42 ?c42 ?k42 ?a43 ?l43 ?c43 ?k43 ?a44 ?l44 ?c44 ?k44 ?glb0 ?glb1 ?z
   (case ca0=>k_is)
   (case cb0=>k_is)
   (case cc0=>k_is)
   (case cd0'=>k_is)
   (case ce0=>k_is)
   (case cf0=>k_is)
   (case cg0=>k_is)
   (case na0_0=>k_is)
   (case na0_1=>k_is)
   (case na0_2=>k_is)
   (case na0_3=>k_is)
   (case na0_4=>k_is)
   (case a0=>k_is)
   (case l0=>k_is)
   (case c0=>k_is)
   (case k0=>k_is)
   (case a1=>k_is)
   (case l1=>k_is)
   (case c1=>k_is)
   (case k1=>k_is)
   (case a2=>k_is)
   (case l2=>k_is)
   (case c2=>k_is)
   (case k2=>k_is)
   (case a3=>k_is)
   (case l3=>k_is)
   (case c3=>k_is)
   (case k3=>k_is)
   (case a4=>k_is)
   (case l4=>k_is)
   (case c4=>k_is)
   (case k4=>k_is)
   (case a5=>k_is)
   (case l5=>k_is)
   (case c5=>k_is)
   (case k5=>k_is)
   (case a6=>k_is)
   (case l6=>k_is)
   (case c6=>k_is)
   (case k6=>k_is)
   (case a7=>k_is)
   (case l7=>k_is)
   (case c7=>k_is)
   (case k7=>k_is)
   (case a8=>k_is)
   (case l8=>k_is)
   (case c8=>k_is)
   (case k8=>k_is)
   (case a9=>k_is)
   (case l9=>k_is)
   (case c9=>k_is)
   (case k9=>k_is)
   (case a10=>k_is)
   (case l10=>k_is)
   (case c10=>k_is)
   (case k10=>k_is)
   (case a11=>k_is)
   (case l11=>k_is)
   (case c11=>k_is)
   (case k11=>k_is)
   (case a12=>k_is)
   (case l12=>k_is)
   (case c12=>k_is)
   (case k12=>k_is)
   (case a13=>k_is)
   (case l13=>k_is)
   (case c13=>k_is)
   (case k13=>k_is)
   (case a14=>k_is)
   (case l14=>k_is)
   (case c14=>k_is)
   (case k14=>k_is)
   (case a15=>k_is)
   (case l15=>k_is)
   (case c15=>k_is)
   (case k15=>k_is)
   (case a16=>k_is)
   (case l16=>k_is)
   (case c16=>k_is)
   (case k16=>k_is)
   (case a17=>k_is)
   (case l17=>k_is)
   (case c17=>k_is)
   (case k17=>k_is)
   (case a18=>k_is)
   (case l18=>k_is)
   (case c18=>k_is)
   (case k18=>k_is)
   (case a19=>k_is)
   (case l19=>k_is)
   (case c19=>k_is)
   (case k19=>k_is)
   (case a20=>k_is)
   (case w20=>k_is)
   (case l20=>k_is)
   (case c20=>k_is)
   (case k20=>k_is)
   (case a21=>k_is)
   (case l21=>k_is)
   (case c21=>k_is)
   (case k21=>k_is)
   (case a22=>k_is)
   (case l22=>k_is)
   (case c22=>k_is)
   (case k22=>k_is)
   (case a23=>k_is)
   (case l23=>k_is)
   (case c23=>k_is)
   (case k23=>k_is)
   (case a24=>k_is)
   (case l24=>k_is)
   (case c24=>k_is)
   (case k24=>k_is)
   (case a25=>k_is)
   (case w25=>k_is)
   (case l25=>k_is)
   (case c25=>k_is)
   (case k25=>k_is)
   (case a26=>k_is)
   (case l26=>k_is)
   (case c26=>k_is)
   (case k26=>k_is)
   (case a27=>k_is)
   (case l27=>k_is)
   (case c27=>k_is)
   (case k27=>k_is)
   (case a28=>k_is)
   (case l28=>k_is)
   (case c28=>k_is)
   (case k28=>k_is)
   (case a29=>k_is)
   (case l29=>k_is)
   (case c29=>k_is)
   (case k29=>k_is)
   (case a30=>k_is)
   (case l30=>k_is)
   (case c30=>k_is)
   (case k30=>k_is)
   (case a31=>k_is)
   (case l31=>k_is)
   (case c31=>k_is)
   (case k31=>k_is)
   (case a32=>k_is)
   (case l32=>k_is)
   (case c32=>k_is)
   (case k32=>k_is)
   (case a33=>k_is)
   (case l33=>k_is)
   (case c33=>k_is)
   (case k33=>k_is)
   (case a34=>k_is)
   (case l34=>k_is)
   (case c34=>k_is)
   (case k34=>k_is)
   (case a35=>k_is)
   (case w35=>k_is)
   (case l35=>k_is)
   (case c35=>k_is)
   (case k35=>k_is)
   (case a36=>k_is)
   (case l36=>k_is)
   (case c36=>k_is)
   (case k36=>k_is)
   (case a37=>k_is)
   (case l37=>k_is)
   (case c37=>k_is)
   (case k37=>k_is)
   (case a38=>k_is)
   (case l38=>k_is)
   (case c38=>k_is)
   (case k38=>k_is)
   (case a39=>k_is)
   (case l39=>k_is)
   (case c39=>k_is)
   (case k39=>k_is)
   (case a40=>k_is)
   (case l40=>k_is)
   (case c40=>k_is)
   (case k40=>k_is)
   (case a41=>k_is)
   (case l41=>k_is)
   (case c41=>k_is)
   (case k41=>k_is)
   (case a42=>k_is)
   (case l42=>k_is)
   (case c42=>k_is)
   (case k42=>k_is)
   (case a43=>k_is)
   (case l43=>k_is)
   (case c43=>k_is)
   (case k43=>k_is)
   (case a44=>k_is)
   (case l44=>k_is)
   (case c44=>k_is)
   (case k44=>k_is)
   (case glb0=>k_is)
   (case glb1=>k_is)
   case z=>
    intro x hx
    simp only [Ev.BJ,List.mem_cons,List.not_mem_nil,or_false] at hx
    rcases hx with rfl | rfl | rfl | rfl | rfl | rfl | rfl | rfl | rfl | rfl | rfl | rfl | rfl | rfl | rfl | rfl | rfl | rfl | rfl <;> k_is
  obtain⟨f,fd,h1⟩:=T.fn My.ri (by simp [My.Tb])
  have e0:=hmg.symm.trans (h1.gl (by decide +kernel))
  cases e0
  refine⟨fd,?_,fun base kb nb=>((Ev.wg T 200).1 My.ri (by simp [My.Tb]) _ fd h1.fn)⟩
  obtain⟨oc,od,kV,doc,pm,an,cdv,ct,osl,rfl,lk,hcd⟩:=h1.fn.ex
  exact fun s v=>.of_eq rfl
 case S=>exact fun w H a ns hl hO hS=>My.y3 hl hO hS
 case C=>exact fun _ _ _ _ z=>z
