import PyProof.Rows.All
import Wide.All
import OpenK.AllK
import Wide.FinOn
import Lean
import PyProof.EqAt
import PyProof.EqKinds
import PyProof.TupleCall
import PySem.Challenge.RW_roadsall_k24_losses_and_doublings
set_option Elab.async false
set_option linter.all false
set_option maxRecDepth 100000
set_option maxHeartbeats 4000000
noncomputable section
abbrev VP:=PySem.Value->PySem.Shared->Prop
abbrev PN:=List (PySem.Addr×PySem.Obj)
abbrev SV:=PySem.Str->Option PySem.Value
abbrev Aa:=PySem.Addr->Prop
abbrev LS:=List PySem.Str
abbrev LV:=List PySem.Value
abbrev Ab:=List PySem.Expr
abbrev OV:=Option PySem.Value
abbrev FG:=PySem.W.Frag
abbrev aY:=@List.mem_cons_of_mem
abbrev a7:=@List.getElem?_set_ne
abbrev bF:=@List.mem_of_getElem?
abbrev bc:=@List.length_cons
abbrev cR:=@List.getElem?_eq_getElem
abbrev aM:=@Nat.le_trans
abbrev bn:=@List.all_eq_true
abbrev bj:=@List.mem_cons
abbrev dP:=@List.getElem?_set_self
abbrev b8:=@List.length_map
abbrev bS:=@Bool.false_ne_true
abbrev bq:=@decide_eq_false
abbrev cj:=@Nat.lt_of_lt_of_le
abbrev dq:=@List.replicate_succ
abbrev dX:=@List.mem_append_right
abbrev bo:=@Nat.ne_of_lt
abbrev bA:=@List.mem_map
abbrev fV:=@List.getElem?_append_right
abbrev cC:=@List.mem_append
abbrev dW:=@Int.emod_lt_of_pos
abbrev dn:=@Int.emod_nonneg
abbrev iB:=@List.eq_nil_of_length_eq_zero
abbrev dU:=@List.not_mem_nil
abbrev iA:=@List.getD_eq_getElem?_getD
abbrev eH:=@PySem.W.kia_one
abbrev eG:=@List.length_set
abbrev c8:=@Int.zero_add
abbrev iz:=@List.getElem?_take_of_lt
abbrev dD:=@List.all_cons
abbrev fu:=@List.nil_append
abbrev iy:=@List.set_getElem_self
abbrev iw:=@List.length_filter_le
abbrev fU:=@List.mem_filter
abbrev jg:=@Option.map_eq_some_iff
abbrev eF:=@Nat.zero_add
abbrev gD:=@List.getElem_mem
abbrev g8:=@List.flatten_cons
abbrev g7:=@List.flatMap_cons
abbrev gC:=@List.foldl_cons
abbrev jf:=@List.mem_iff_getElem
abbrev k4:=@PyProof.Rows.callWith_type1
abbrev je:=@List.mem_singleton
abbrev iu:=@List.length_take
abbrev gB:=@List.any_cons
abbrev j5:=@List.mem_append_left
abbrev ir:=@List.cons.injEq
abbrev j4:=@beq_eq_false_iff_ne
abbrev gA:=@List.map_nil
abbrev jd:=@PySem.wpAny_truthy_bool
abbrev jc:=@List.mem_flatMap
abbrev iq:=@decide_eq_true
abbrev j3:=@Nat.add_sub_cancel
abbrev kZ:=@PySem.F.slot_dict_get
abbrev jb:=@List.find?_cons
abbrev ja:=@Bool.or_eq_true
abbrev dS:=@or_false
abbrev j1:=@PySem.Calls.spliced_nil
abbrev kY:=@Nat.lt_of_le_of_lt
abbrev ip:=@Nat.le_of_lt
abbrev i':=@Nat.lt_irrefl
abbrev kX:=@PySem.wpAny_Call_Name_kw
abbrev j0:=@PySem.wpAny_loadPart'
abbrev jZ:=@List.mem_range
abbrev mZ:=@List.mem_of_mem_take
abbrev pU:=@List.mem_of_find?_eq_some
abbrev mY:=@PySem.mem_of_lookup
abbrev mX:=@List.filter_eq_self
abbrev mW:=@Array.length_toList
abbrev i_:=@Sum.inr.inj
abbrev mV:=@PySem.Heap.SameBut.update
abbrev mU:=@PySem.W.kitx_list
abbrev pT:=@PySem.F.slot_tuple_mul
abbrev pS:=@PySem.F.entry_dict_get
abbrev mS:=@PySem.tupleKind_room_in1
abbrev jY:=@PyProof.Rows.slot_tuple_getitem
abbrev pR:=@PySem.wpAny_getItem_str_slice
abbrev pQ:=@PySem.SeqAt.eqv_refl
abbrev kW:=@Nat.lt_trans
abbrev pP:=@List.mem_replicate
abbrev pO:=@List.mem_filterMap
abbrev mR:=@PySem.wpAny_passesOwn
abbrev uc:=@List.drop_eq_getElem_cons
abbrev ub:=@Array.getElem?_eq_getElem
abbrev kU:=@Nat.le_succ
abbrev ua:=@PySem.F.args_tuple_add_2
abbrev pN:=@decide_eq_decide
abbrev i9:=@and_true
abbrev t_:=@PySem.F.plainAttrs_list
abbrev t8:=@PySem.F.plainAttrs_dict
abbrev t6:=@PySem.F.entry_tuple_add
abbrev pM:=@Option.bind_some
abbrev pL:=@List.take_length
abbrev pK:=@List.lookup_cons
abbrev t5:=@List.getElem?_replicate
abbrev t4:=@List.filter_cons_of_pos
abbrev t3:=@List.filter_cons_of_neg
abbrev pJ:=@List.any_eq_true
abbrev tZ:=@PySem.F.slot_tuple_add
abbrev tY:=@PyProof.Rows.boot_list
abbrev mQ:=@List.map_map
abbrev jD:=@PySem.sizeLine_eq
abbrev mF:=@List.find?_some
abbrev mE:=@List.filter_map
abbrev mD:=@Bool.eq_iff_iff
abbrev qd:=@PySem.AutoSeq1.wpAny_loadPart'
abbrev qc:=@List.mem_of_mem_drop
abbrev mB:=@List.drop_zero
abbrev qa:=@PySem.F.slot_zip_getattribute
abbrev kn:=@PySem.wpAny_typeOf
abbrev km:=@PySem.call_meetsIn
abbrev p':=@PySem.W.plainGet_of
abbrev p_:=@List.filterMap_cons
abbrev my:=@PySem.post_val_or_str
abbrev kl:=@beq_iff_eq
abbrev p9:=@PySem.W.callWith_K
abbrev p7:=@PySem.Heap.get?_update_self
abbrev u_:=@List.set_eq_take_append_cons_drop
abbrev u9:=@List.findIdx?_eq_some_iff_getElem
abbrev iC:=@if_true
abbrev mx:=@Nat.mul_comm
abbrev p6:=@Nat.le_of_succ_le
abbrev u7:=@List.eraseIdx_eq_take_drop_succ
abbrev p0:=@List.range'_succ
abbrev pZ:=@List.length_drop
abbrev pY:=@List.flatMap_map
abbrev pX:=@List.drop_length
abbrev pW:=@List.cons_append
abbrev pV:=@Bool.not_eq_true
abbrev mw:=@List.map_id
namespace L2
open PySem PySem.Spec PyProof.Rows
noncomputable abbrev bz:=Sum Int Str
noncomputable def pa:bz->Value->Bool
 | .inl k,v=>Value.isInt k v
 | .inr x,v=>Value.isStrOf x v
noncomputable def JZ (w:World):bz->Int
 | .inl k=>hashInt k
 | .inr x=>hashStr w x
theorem cy:∀{k:bz}{v:Value},pa k v=true->(∃i t,k=Sum.inl i/\v=Value.int i t)\/(∃x t,k=Sum.inr x/\v=Value.str x t)
 | .inl i,v,h=>by obtain⟨t,e⟩:=Value.isInt_shape (k:=i) (v:=v) h;exact .inl ⟨i,t,rfl,e⟩
 | .inr x,v,h=>by obtain⟨t,e⟩:=Value.isStrOf_shape (x:=x) (v:=v) h;exact .inr ⟨x,t,rfl,e⟩
theorem xb (i:Int) (t:Tok):pa (.inl i) (.int i t)=true:=by simp [pa,Value.isInt]
theorem xa (x:Str) (t:Tok):pa (.inr x) (.str x t)=true:=by simp [pa,Value.isStrOf]
theorem Ea (a b:Int):decide ((Sum.inl a:bz)=Sum.inl b)=(a == b):=by
 by_cases e:a=b
 .subst e;simp
 .have h:¬(Sum.inl a:bz)=Sum.inl b:=fun q=>e (Sum.inl.inj q);rw [bq h];exact (j4.mpr e).symm
theorem D9 (a b:Str):decide ((Sum.inr a:bz)=Sum.inr b)=decide (a=b):=by
 by_cases e:a=b
 .subst e;simp
 .have h:¬(Sum.inr a:bz)=Sum.inr b:=fun q=>e (i_ q);rw [bq h,bq e]
theorem D' (a:Int) (b:Str):decide ((Sum.inl a:bz)=Sum.inr b)=false:=bq (fun q=>nomatch q)
theorem D_ (a:Str) (b:Int):decide ((Sum.inr a:bz)=Sum.inl b)=false:=bq (fun q=>nomatch q)
noncomputable def bN (prog:Program) (w:World):PySem.KeyKind prog w bz where
 is:=pa
 hash:=JZ w
 inj:=fun v a b c f=>by
  rcases cy c with ⟨i,t,rfl,rfl⟩ | ⟨x,t,rfl,rfl⟩
  .rcases cy f with ⟨j,u,rfl,e⟩ | ⟨y,u,rfl,e⟩
   .injection e with s _;rw [s]
   .exact nomatch e
  .rcases cy f with ⟨j,u,rfl,e⟩ | ⟨y,u,rfl,e⟩
   .exact nomatch e
   .injection e with s _;rw [s]
 byValue:=fun k v h=>by rcases cy h with ⟨i,t,rfl,rfl⟩ | ⟨x,t,rfl,rfl⟩ <;> rfl
 pyHash:=fun n h=>by
  rcases cy n with ⟨i,t,rfl,rfl⟩ | ⟨x,t,rfl,rfl⟩
  .exact wpAny_pyHash_int h
  .exact wpAny_pyHash_str h
 eqBool:=fun m n h=>by
  rcases cy m with ⟨i,t,rfl,rfl⟩ | ⟨x,t,rfl,rfl⟩
  .rcases cy n with ⟨j,u,rfl,rfl⟩ | ⟨y,u,rfl,rfl⟩
   .rw [Ea] at h;exact wpAny_eqBool_int h
   .rw [D'] at h;exact SeqAt.EqAt.int_str i t y u _ _ _ _ h
  .rcases cy n with ⟨j,u,rfl,rfl⟩ | ⟨y,u,rfl,rfl⟩
   .rw [D_] at h;exact SeqAt.EqAt.str_int x t j u _ _ _ _ h
   .rw [D9] at h;exact wpAny_eqBool_str h
 «strs»:=fun k x t v h=>by
  rcases cy h with ⟨i,u,rfl,e⟩ | ⟨y,u,rfl,e⟩
  .exact nomatch e
  .injection e with s _;subst s;cases v <;> rfl
theorem sD (prog:Program) (w:World) (i:Int) (t:Tok):(bN prog w).is (.inl i) (.int i t)=true:=xb i t
theorem sC (prog:Program) (w:World) (x:Str) (t:Tok):(bN prog w).is (.inr x) (.str x t)=true:=xa x t
inductive V where
 | non | bl (b:Bool) | int (i:Int) | str (x:Str) | byt (b:Array UInt8) | flt (b:UInt64) | ref (a:Addr) | ty (n:String)
 deriving DecidableEq
noncomputable def RelV:V->Value->Prop
 | .non,u=>u=Value.none
 | .bl b,u=>u=Value.bool b
 | .int i,u=>∃t,u=Value.int i t
 | .str x,u=>∃t,u=Value.str x t
 | .byt b,u=>∃t,u=Value.bytes b t
 | .flt b,u=>∃t,u=Value.float b t
 | .ref a,u=>u=Value.ref a
 | .ty n,u=>u=Value.type n
noncomputable abbrev aL:List V->LV->Prop:=Paired RelV
variable {Y:LV}
theorem aL.length (r:aL xs Y):xs.length=Y.length:=Paired.length r
theorem aL.get:∀{xs:List V}{Y:LV}{i:Nat}{x:V},aL xs Y->xs[i]? = some x->∃u,Y[i]? = some u/\RelV x u
 | _,_,_,_,.nil,e=>by simp at e
 | _,_,0,_,.cons r _,e=>by simp at e;subst e;exact⟨_,rfl,r⟩
 | _,_,i+1,x,.cons _ t,e=>by obtain⟨u,J,h2⟩:=aL.get (i:=i) (x:=x) t (by simpa using e);exact⟨u,by simpa using J,h2⟩
variable {u:Value}
theorem aL.set (r:RelV x u):∀{xs:List V}{Y:LV} (i:Nat),aL xs Y->aL (xs.set i x) (Y.set i u)
 | _,_,_,.nil=>.nil
 | _,_,0,.cons _ t=>.cons r t
 | _,_,i+1,.cons q t=>.cons q (aL.set r i t)
theorem aL.append:∀{xs ys:List V}{Y w:LV},aL xs Y->aL ys w->aL (xs++ys) (Y++w)
 | _,_,_,_,.nil,s=>s
 | _,_,_,_,.cons r t,s=>.cons r (aL.append t s)
theorem aL.take:∀{xs:List V}{Y:LV} (n:Nat),aL xs Y->aL (xs.take n) (Y.take n)
 | _,_,0,_=>.nil
 | _,_,_+1,.nil=>.nil
 | _,_,n+1,.cons r t=>.cons r (aL.take n t)
theorem aL.drop:∀{xs:List V}{Y:LV} (n:Nat),aL xs Y->aL (xs.drop n) (Y.drop n)
 | _,_,0,r=>r
 | _,_,_+1,.nil=>.nil
 | _,_,n+1,.cons _ t=>aL.drop n t
noncomputable def i7:Option V->OV->Prop
 | some v,some u=>RelV v u
 | none,none=>True
 | _,_=>False
noncomputable def KV:List (κ×V)->List (κ×Value)->Prop:=Paired fun (p:κ×V) (q:κ×Value)=>p.1=q.1/\RelV p.2 q.2
noncomputable def kV:bz->V
 | .inl i=>.int i
 | .inr x=>.str x
noncomputable def lG (h:Heap) (a:Addr) (i:Array Value):Prop:=∃o,h.get? a=some o/\(o.cls=.type "tuple"/\∃n,o.data=.seq i n)/\o.dict=none
variable {h:Heap}{a:Addr}
theorem lG.tup (x:lG h a N):IsTup h a N:=by obtain⟨o,e,c,_⟩:=x;exact⟨o,e,c⟩
theorem lG.lt (x:lG h a N):a < h.objs.size:=x.tup.lt
theorem lG.new (h:Heap) (i:Array Value):lG (h.push { cls:=.type "tuple",data:=.seq i }) h.objs.size i:=⟨_,Heap.get?_push_size _ rfl,⟨rfl,_,rfl⟩,rfl⟩
inductive HO where
 | lst (xs:List V)
 | tup (xs:List V)
 | dK (kvs:List (bz×V)) | dT (kvs:List (List bz×V))
 | set (S:Int->Bool) (n:Nat)
 | ins (C dx:Addr) (fs:List (Str×V))
 | own (x:Addr)
 | xd (fs:List (Str×V))
 | met (f x:Addr)
 | rng (lo hi:Int)
 | frz (o:Obj) (u:HO)
 | tbl (ps:Array Value)
 | ext (φ:Heap->Prop)
noncomputable abbrev Hp:=Addr->Option HO
noncomputable def cc (H:Hp) (a:Addr) (o:HO):Hp:=fun b=>if b=a then some o else H b
variable {H:Hp}
theorem aE:cc H a o a=some o:=by unfold cc;rw [if_pos rfl]
variable {b:Addr}
theorem am (h:b≠a):cc H a o b=H b:=by unfold cc;rw [if_neg h]
theorem GL {H:Hp}{a b:Addr}{o u:HO} (h:H a=some o) (h':H b=some u) (d:o≠u):a≠b:=by intro e;subst e;rw [h] at h';exact d (Option.some.inj h')
theorem be (h:H a=some o) (h':H b=none):a≠b:=by intro e;subst e;rw [h] at h';cases h'
section
variable (P:Program) (w:World)
noncomputable def ce (H:Hp) (h:Heap) (a:Addr):HO->Prop
 | .lst xs=>xs.length≤sizeLine/\∃(i:LV) (n:Nat),aL xs i/\h.get? a=some { cls:=.type "list",data:=.seq i.toArray n }
 | .tup xs=>xs.length≤sizeLine/\∃i:LV,aL xs i/\lG h a i.toArray
 | .dK j=>j.length≤sizeLine/\(a == sysModules)=false/\∃k,KV j k/\h.DictOf (bN P w) a k
 | .dT j=>j.length≤sizeLine/\(a == sysModules)=false/\∃xs:List (List bz×Addr×Value),
   Paired (fun (p:List bz×V) (e:List bz×Addr×Value)=>p.1=e.1/\H e.2.1=some (.tup (p.1.map kV))/\RelV p.2 e.2.2) j xs /\
   ∃o es b,h.get? a=some o/\o.ExactDict/\o.data=.dict es b/\es.toList=xs.map (entryOfKey (tupleKind (bN P w)))/\(xs.map (·.1)).Nodup
 | .set S n=>h.SetOf (intKind P w) a S n
 | .ins C dx fs=>H dx=some (.own a)/\fs.length≤1000/\dx≠a/\h.get? a=some (PySem.W.instObj C dx) /\
   ∃mA,h.Ns1 dx mA/\(∀f,i7 (fs.lookup f) (mA f))/\PySem.Within mA (fs.map (·.1))
 | .own _=>∃o,h.get? a=some o
 | .xd fs=>∃mA,h.Ns1 a mA/\∀f,i7 (fs.lookup f) (mA f)
 | .rng I q=>∃t u v,h.get? a=some { cls:=.type "range",data:=.fields #[.int I t,.int q u,.int 1 v] }
 | .frz o u=>h.get? a=some o/\ce H h a u
 | .tbl ps=>h.get? a=some { cls:=.none,data:=.fields ps }
 | .met f x=>h.get? a=some (PySem.W.methodObj (.ref f) (.ref x))
 | .ext s=>s h/\(∃o,h.get? a=some o)/\∀J h2:Heap,s J->(∀o,J.get? a=some o->h2.get? a=some o)->s h2
noncomputable def jM (H:Hp) (h:Heap):Prop:=∀a o,H a=some o->ce P w H h a o
end
section
variable {P:Program}{w:World}{H H':Hp}{h h':Heap}{a:Addr}{o:HO}
theorem ce.lt (x:ce P w H h a o):a < h.objs.size:=by
 cases o with
 | lst xs=>obtain⟨_,_,_,_,e⟩:=x;exact Heap.lt_size e
 | tup xs=>obtain⟨_,_,_,p⟩:=x;exact p.lt
 | dK j=>obtain⟨_,_,_,_,o,_,_,e,_⟩:=x;exact Heap.lt_size e
 | dT j=>obtain⟨_,_,_,_,o,_,_,e,_⟩:=x;exact Heap.lt_size e
 | set S n=>obtain⟨o,_,_,_,e,_⟩:=x;exact Heap.lt_size e
 | ins C dx fs=>obtain⟨_,_,_,e,_⟩:=x;exact Heap.lt_size e
 | own y=>obtain⟨_,e⟩:=x;exact Heap.lt_size e
 | xd fs=>obtain⟨_,⟨_,_,_,e,_⟩,_⟩:=x;exact Heap.lt_size e
 | rng I q=>obtain⟨_,_,_,e⟩:=x;exact Heap.lt_size e
 | frz b u=>obtain⟨e,_⟩:=x;exact Heap.lt_size e
 | tbl ps=>exact Heap.lt_size (show h.get? a=some _ from x)
 | met f y=>exact Heap.lt_size (show h.get? a=some _ from x)
 | ext s=>obtain⟨_,⟨_,e⟩,_⟩:=x;exact Heap.lt_size e
theorem Paired.mapP:∀{l:List α}{h:List β},Paired F l h->(∀a b,F a b->N a b)->Paired N l h
 | _,_,.nil,_=>.nil
 | _,_,.cons r t,f=>.cons (f _ _ r) (Paired.mapP t f)
theorem ce.stay (x:ce P w H h a o) (k:∀b u,(b=a\/H b=some (.own a))->h.get? b=some u->h'.get? b=some u)
  (K:∀b,H b=some (.own a)->H' b=some (.own a)) (A:∀b xs,H b=some (.tup xs)->H' b=some (.tup xs)):ce P w H' h' a o:=by
 induction o with
 | lst xs=>obtain⟨z,i,n,r,e⟩:=x;exact⟨z,i,n,r,k _ _ (.inl rfl) e⟩
 | tup xs=>obtain⟨z,i,r,m,e,c⟩:=x;exact⟨z,i,r,m,k _ _ (.inl rfl) e,c⟩
 | dK j=>obtain⟨z,y,E,r,m,es,g,e,c⟩:=x;exact⟨z,y,E,r,m,es,g,k _ _ (.inl rfl) e,c⟩
 | dT j=>obtain⟨z,y,xs,r,m,es,g,e,c⟩:=x;exact⟨z,y,xs,Paired.mapP r fun p s z=>⟨z.1,A _ _ z.2.1,z.2.2⟩,m,es,g,k _ _ (.inl rfl) e,c⟩
 | set S n=>obtain⟨m,es,g,t,e,c⟩:=x;exact⟨m,es,g,t,k _ _ (.inl rfl) e,c⟩
 | ins C dx fs=>obtain⟨d,z,D,e,mA,⟨l,es,g,F,c⟩,r⟩:=x;exact⟨K _ d,z,D,k _ _ (.inl rfl) e,mA,⟨l,es,g,k _ _ (.inr d) F,c⟩,r⟩
 | own y=>obtain⟨m,e⟩:=x;exact⟨m,k _ _ (.inl rfl) e⟩
 | xd fs=>obtain⟨mA,⟨l,es,g,e,c⟩,r⟩:=x;exact⟨mA,⟨l,es,g,k _ _ (.inl rfl) e,c⟩,r⟩
 | rng I q=>obtain⟨t,u,v,e⟩:=x;exact⟨t,u,v,k _ _ (.inl rfl) e⟩
 | frz m u B=>obtain⟨e,s⟩:=x;exact⟨k _ _ (.inl rfl) e,B s⟩
 | tbl ps=>have e:h.get? a=some { cls:=.none,data:=.fields ps }:=x;show h'.get? a=some { cls:=.none,data:=.fields ps };exact k a _ (.inl rfl) e
 | met f y=>have e:h.get? a=some (PySem.W.methodObj (.ref f) (.ref y)):=x;show h'.get? a=some (PySem.W.methodObj (.ref f) (.ref y));exact k a _ (.inl rfl) e
 | ext G=>obtain⟨p,⟨o,e⟩,st⟩:=x;exact⟨st _ _ p fun o s=>k _ _ (.inl rfl) s,⟨o,k _ _ (.inl rfl) e⟩,st⟩
theorem jM.lt (x:jM P w H h) (e:H a=some o):a < h.objs.size:=(x a o e).lt
theorem jM.fresh (x:jM P w H h) (e:h.objs.size≤a):H a=none:=by
 cases q:H a with
 | none=>rfl
 | some u=>exact absurd (cj (x.lt q) e) (i' _)
theorem jM.kept (x:jM P w H h) (k:∀b u,h.get? b=some u->h'.get? b=some u):jM P w H h':=fun a o e=>
 (x a o e).stay (fun b u _ q=>k b u q) (fun _ q=>q) fun _ _ q=>q
theorem jM.laid (x:jM P w H h) (k:∀b u,h.get? b=some u->h'.get? b=some u) (p:h.objs.size≤a) (n:ce P w (cc H a o) h' a o):jM P w (cc H a o) h':=fun b u e=>by
 have f:=x.fresh p;by_cases s:b=a
 .subst s;rw [aE] at e;cases e;exact n
 .rw [am s] at e;exact (x b u e).stay (fun c v _ q=>k c v q) (fun c q=>by rw [am (be q f)];exact q) fun c xs q=>by rw [am (be q f)];exact q
end
noncomputable def Rd (H:Hp) (a:Addr) (u:HO):Prop:=H a=some u\/∃o,H a=some (.frz o u)
theorem Rd.ok {P:Program}{w:World}{H:Hp}{h:Heap}{a:Addr}{u:HO} (r:Rd H a u) (x:jM P w H h):ce P w H h a u:=by
 rcases r with r | ⟨o,r⟩
 .exact x a u r
 .obtain⟨_,q⟩:=x a _ r;exact q
noncomputable def HJ:Option HO->Prop
 | some (.lst _)=>True
 | some (.dK _)=>True
 | some (.dT _)=>True
 | some (.set _ _)=>True
 | some (.ins _ _ _)=>True
 | some (.ext _)=>True
 | _=>False
section
variable {P:Program}{w:World}{H:Hp}{h h':Heap}{x e:Addr}{o':HO}
theorem jM.write (ok:jM P w H h) (m:HJ (H x)) (d:e=x\/H e=some (.own x)) (k:∀b u,b≠e->h.get? b=some u->h'.get? b=some u) (o:∃u,h'.get? e=some u)
  (p:ce P w (cc H x o') h' x o'):jM P w (cc H x o') h':=fun b u q=>by
 have n:∀c y,H c=some (.own y)->c≠x:=fun c y r z=>by subst z;rw [r] at m;exact m
 have t:∀c xs,H c=some (.tup xs)->c≠x:=fun c xs r z=>by subst z;rw [r] at m;exact m
 by_cases s:b=x
 .subst s;rw [aE] at q;cases q;exact p
 .rw [am s] at q;by_cases a:b=e
  .have g:H b=some (.own x):=by
    rcases d with z | z
    .exact absurd (a.trans z) s
    .rw [a];exact z
   rw [q] at g;cases g;obtain⟨v,i⟩:=o;exact⟨v,by rw [a];exact i⟩
  .refine (ok b u q).stay (fun c v f r=>k c v ?_ r) (fun c r=>by rw [am (n c b r)];exact r) fun c xs r=>by rw [am (t c xs r)];exact r
   rcases f with rfl | f
   .exact a
   .rintro rfl;rcases d with z | z
    .exact n c b f z
    .rw [f] at z;cases z;exact s rfl
end
structure Un (fs ex:List Addr) (H H':Hp) (h h':Heap):Prop where
 keep:∀b o,h.get? b=some o->H b=none->b ∉ fs->b ∉ ex->h'.get? b=some o
 slot:∀b o,h.get? b=some o->H b=none->b ∈ fs->b ∉ ex->∃sl,h'.get? b=some { o with slots:=sl }
 free:∀b o,h.get? b=some o->H b=none->b ∉ ex->H' b=none
 there:∀b o,h.get? b=some o->b ∉ ex->∃o',h'.get? b=some o'
 tups:∀b xs,H b=some (.tup xs)->H' b=some (.tup xs)
 frzs:∀b o u,H b=some (.frz o u)->H' b=some (.frz o u)
 tbls:∀b ps,H b=some (.tbl ps)->∃more,H' b=some (.tbl (ps++more))
section
variable {fs fs' ex ex':List Addr}{H U H2:Hp}{h J h2 h':Heap}{a x e:Addr}{o:HO}
theorem Un.any (u:Un fs ex H U h J) (q:h.get? b=some N) (n:H b=none) (a:b ∉ ex):∃s,J.get? b=some { N with slots:=s }:=by
 by_cases x:b ∈ fs
 .exact u.slot b N q n x a
 .exact⟨N.slots,u.keep b N q n x a⟩
theorem Un.kept (k:∀b u,h.get? b=some u->h'.get? b=some u):Un fs ex H H h h':=
 ⟨fun b o q _ _ _=>k b o q,fun b o q _ _ _=>⟨o.slots,k b o q⟩,fun _ _ _ n _=>n,fun b o q _=>⟨o,k b o q⟩,fun _ _ q=>q,fun _ _ _ q=>q,fun _ ps q=>⟨#[],by rw [q];simp⟩⟩
theorem Un.refl:Un fs ex H H h h:=Un.kept fun _ _ q=>q
theorem Un.laid (k:∀b u,h.get? b=some u->h'.get? b=some u) (p:h.objs.size≤a) (x:H a=none):Un fs ex H (cc H a o) h h' where
 keep:=fun b u q _ _ _=>k b u q
 slot:=fun b u q _ _ _=>⟨u.slots,k b u q⟩
 free:=fun b u q n _=>by rw [am (bo (cj (Heap.lt_size q) p))];exact n
 there:=fun b u q _=>⟨u,k b u q⟩
 tups:=fun b xs q=>by rw [am (be q x)];exact q
 frzs:=fun b u xs q=>by rw [am (be q x)];exact q
 tbls:=fun b ps q=>⟨#[],by rw [am (be q x),q];simp⟩
theorem Un.write (m:HJ (H x)) (p:e=x\/H e=some (.own x)) (k:∀b u,b≠e->h.get? b=some u->h'.get? b=some u) (s:∃u,h'.get? e=some u):Un fs ex H (cc H x o) h h':=by
 have t:∀b,H b=none->b≠x:=fun b n z=>by subst z;rw [n] at m;exact m
 have c:∀b,H b=none->b≠e:=fun b n z=>by
  subst z;rcases p with r | r
  .exact t b n r
  .rw [n] at r;cases r
 have f:∀b u,H b=some u->¬HJ (some u)->b≠x:=fun b u q nm z=>by subst z;rw [q] at m;exact nm m
 refine⟨fun b u q n _ _=>k b u (c b n) q,fun b u q n _ _=>⟨u.slots,k b u (c b n) q⟩,fun b u q n _=>by rw [am (t b n)];exact n,fun b u q _=>?_,
  fun b xs q=>by rw [am (f b _ q fun z=>z)];exact q,fun b u xs q=>by rw [am (f b _ q fun z=>z)];exact q,fun b ps q=>⟨#[],by rw [am (f b _ q fun z=>z),q];simp⟩⟩
 by_cases a:b=e
 .subst a;exact s
 .exact⟨u,k b u a q⟩
end
noncomputable def trk (h:Heap) (H:Hp):List Addr:=(List.range h.objs.size).filter fun a=>(H a).isSome
noncomputable def qJ (h:Heap) (H:Hp):Heap:=PySem.W.hideAll h (trk h H)
theorem xl (h:Heap) (H:Hp):(qJ h H).objs.size=h.objs.size:=PySem.W.hideAll_size _ _
variable {o:Obj}
theorem zE (e:h.get? b=some o) (n:H b=none):(qJ h H).get? b=some o:=
 PySem.W.hideAll_get _ e fun m=>by have q:(H b).isSome=true:=(fU.mp m).2;rw [n] at q;simp at q
theorem Bm (e:(qJ h H).get? b=some o):h.get? b=some o/\H b=none:=by
 have a:h.get? b=some o:=PySem.W.of_hideAll (trk h H) e;refine⟨a,?_⟩;cases q:H b with
 | none=>rfl
 | some x=>have m:b ∈ trk h H:=fU.mpr ⟨jZ.mpr (Heap.lt_size a),by simp [q]⟩;have z:(qJ h H).get? b=none:=PySem.W.hideAll_none (trk h H) m;rw [z] at e;cases e
noncomputable def jH (g h:Heap) (L:Addr):PN:=(List.range h.objs.size).filterMap fun a=>if a=L\/(g.get? a).isSome=true then none else (h.get? a).map fun o=>(a,o)
variable {g:Heap}{L:Addr}
theorem sE (J:a≠L) (h2:g.get? a=none) (x:h.get? a=some o):(a,o) ∈ jH g h L:=
 pO.mpr ⟨a,jZ.mpr (Heap.lt_size x),by simp [J,h2,x]⟩
theorem nw (x:p ∈ jH g h L):p.1≠L/\g.get? p.1=none/\h.get? p.1=some p.2:=by
 obtain⟨b,_,e⟩:=pO.mp x;split at e
 .cases e
 .rename_i n;cases q:h.get? b with
  | none=>rw [q] at e;simp at e
  | some u=>
   rw [q] at e;simp only [Option.map_some,Option.some.injEq] at e;subst e;refine⟨fun z=>n (.inl z),?_,q⟩;show g.get? b=none;cases r:g.get? b with
   | none=>rfl
   | some v=>exact (n (.inr (by simp [r]))).elim
noncomputable def ck (g h:Heap) (L d:Addr):PN:=(jH g h L).filter fun p=>decide (p.1≠d)
theorem sw:News g L h (jH g h L):=fun p x=>let ⟨a,b,c⟩:=nw x;⟨c,a,b⟩
structure Mod (K:FG) (mg:SV) (base:Heap):Prop where
 kin:K.In base
 glob:base.Ns mainGlobals mg
 blt:∃mb,base.Ns builtinsNs mb/\∀x:Str,x≠"__name__"->mb x=bootBuiltins x
 nolimit:base.NoLimit
structure Cx where
 prog:Program
 w:World
 K:FG
 mg:SV
 base:Heap
 A:Around
 N:LS
 s₀:Shared
 H₀:Hp
 env:Env
 outer:List Env
 stack:List Env
 ex:List Addr
 fn:Str->Bool
 calm:Bool
 pn:PN
 xe:VP
noncomputable def zJ (l:List Env):List Addr:=l.filterMap (·.frame)
noncomputable abbrev Cx.fs (X:Cx):List Addr:=zJ X.outer
noncomputable def EI (sc:Scope) (x:Str):Prop:=sc.names.lookup x=some .local\/sc.names.lookup x=some .cell\/sc.names.lookup x=some .free
noncomputable def Loc (sc:Scope) (x:Str):Prop:=sc.names.lookup x=some .local\/sc.names.lookup x=some .cell
noncomputable def Look (e:Env) (h:Heap) (m:SV) (x:Str) (u:Value):Prop:=
 (e.kindOf x=some .local/\m x=some u)\/((e.kindOf x=some .cell\/e.kindOf x=some .free)/\∃c,e.cells.lookup x=some c/\h.IsCell c (some u))
structure Cx.Ok (X:Cx):Prop where
 mod:Mod X.K X.mg X.base
 kind:X.env.scope.kind=.function
 glob:X.env.globals=mainGlobals
 blt:X.env.builtins=builtinsNs
 above:X.s₀.heap.objs.size≤X.env.locals
 inj:∀x y c,X.env.cells.lookup x=some c->X.env.cells.lookup y=some c->x=y
 has:∀x,(X.env.kindOf x=some .cell\/X.env.kindOf x=some .free)->∃c,X.env.cells.lookup x=some c
 cab:∀x c,X.fn x=true->X.env.cells.lookup x=some c->X.s₀.heap.objs.size≤c
 hd:X.calm=true->X.A.handled=none
 frames:X.A.frames=some X.stack
 stk:X.stack=X.outer\/(X.stack=X.env::X.outer/\X.env.frame=some X.env.locals)
 exf:∀b ∈ X.ex,b≠X.env.locals/\∀x c,X.env.cells.lookup x=some c->c≠b
 bs:∀b o,X.base.get? b=some o->X.s₀.heap.get? b=some o/\X.H₀ b=none
 bsz:X.base.objs.size≤X.s₀.heap.objs.size
 noex:∀b o,X.base.get? b=some o->b ∉ X.ex
 exfs:∀b ∈ X.ex,b ∉ X.fs
 funs:X.s₀.heap.FunFrames X.base X.outer
 frf:∀b ∈ X.fs,X.H₀ b=none
structure Inv (X:Cx) (pins:PN) (σ:List (Option V)) (H:Hp) (s:Shared):Prop where
 ok:X.Ok
 os:s.os=X.s₀.os
 bare:AllBare s.gens
 base:Un X.fs X.ex X.H₀ H X.s₀.heap s.heap
 loc:∃m,s.heap.Ns X.env.locals m/\∀(i:Nat) (x:Str) (v:V),X.N[i]? = some x->σ[i]? = some (some v)->EI X.env.scope x->∃u,RelV v u/\Look X.env s.heap m x u
 cell:∀x c,X.env.cells.lookup x=some c->∃v,s.heap.IsCell c v
 free:H X.env.locals=none
 freeC:∀x c,X.env.cells.lookup x=some c->H c=none
 pin:∀p ∈ X.pn++pins,s.heap.get? p.1=some p.2/\H p.1=none/\p.1≠X.env.locals/\p.1 ∉ X.fs/\∀v,p.2.data≠.cell v
 hok:jM X.prog X.w H s.heap
 len:σ.length=X.N.length
section
variable {X:Cx}{B:PN}{G:List (Option V)}{H H':Hp}{s:Shared}{h':Heap}
theorem Cx.Ok.nofr (ok:X.Ok) (e:X.base.get? b=some o):b ∉ X.fs:=fun h=>by have:=(ok.funs.mem h).1;rw [e] at this;cases this
theorem Inv.bs (I:Inv X B G H s):∀b o,X.base.get? b=some o->s.heap.get? b=some o/\H b=none:=fun b o e=>
 ⟨I.base.keep b o (I.ok.bs b o e).1 (I.ok.bs b o e).2 (I.ok.nofr e) (I.ok.noex b o e),I.base.free b o (I.ok.bs b o e).1 (I.ok.bs b o e).2 (I.ok.noex b o e)⟩
theorem Inv.bk (I:Inv X B G H s):∀b o,X.base.get? b=some o->s.heap.get? b=some o:=fun b o e=>(I.bs b o e).1
theorem Inv.mod (I:Inv X B G H s):Mod X.K X.mg X.base:=I.ok.mod
theorem Inv.kIn (I:Inv X B G H s):X.K.In s.heap:=I.ok.mod.kin.keeps I.bk
theorem Inv.fr (I:Inv X B G H s):∃m,Fr X.base X.env.locals s.heap m:=
 let ⟨m,h,_⟩:=I.loc
 ⟨m,h,I.bk,aM I.ok.bsz I.ok.above⟩
theorem Inv.lt (I:Inv X B G H s):X.env.locals < s.heap.objs.size:=let ⟨_,h,_⟩:=I.loc;h.lt
theorem Inv.sz (I:Inv X B G H s):X.s₀.heap.objs.size≤s.heap.objs.size:=aM I.ok.above (ip I.lt)
theorem Inv.nofs (I:Inv X B G H s) (h:s.heap.objs.size≤a):a ∉ X.fs:=fun b=>by obtain⟨_,o,x,_⟩:=I.ok.funs.mem b;exact absurd (cj (Heap.lt_size x) (aM I.sz h)) (i' _)
theorem Inv.cne (I:Inv X B G H s):∀x c,X.env.cells.lookup x=some c->c≠X.env.locals:=fun x c e z=>by obtain⟨v,o,n,hd⟩:=I.cell x c e;obtain⟨m,⟨o',es,p,a,h,_⟩,_⟩:=I.loc;rw [z,a] at n;cases n;rw [h] at hd;cases hd
theorem Inv.funs (I:Inv X B G H s):s.heap.FunFrames X.base X.outer:=by
 have all:∀(l:List Env),(∀b ∈ zJ l,b ∈ X.fs)->X.s₀.heap.FunFrames X.base l->s.heap.FunFrames X.base l:=by
  intro l;induction l with
  | nil=>intro _ _;trivial
  | cons n r i=>
   intro a c;obtain⟨k,⟨L,o,f,m,t,hd⟩,p⟩:=c;have h:L ∈ X.fs:=a L (by unfold zJ;rw [p_,f];exact List.mem_cons_self);obtain⟨q,e⟩:=I.base.slot L o t (I.ok.frf L h) h fun z=>I.ok.exfs L z h
   exact⟨k,⟨L,_,f,m,e,hd⟩,i (fun b x=>a b (by unfold zJ;rw [p_,f];exact aY _ x)) p⟩
 exact all X.outer (fun _ x=>x) I.ok.funs
theorem Inv.stack (I:Inv X B G H s):s.heap.FunFrames X.base X.stack:=by
 rcases I.ok.stk with e | ⟨e,h⟩
 .rw [e];exact I.funs
 .rw [e];obtain⟨m,n,_⟩:=I.loc;refine .cons (by rw [I.ok.kind];decide) h n ?_ I.funs;exact Heap.get?_none_of_le (aM I.ok.bsz I.ok.above)
theorem Inv.stkSub (I:Inv X B G H s):∀b ∈ zJ X.stack,b ∈ X.env.locals::X.fs:=fun b h=>by
 rcases I.ok.stk with e | ⟨e,f⟩
 .rw [e] at h;exact aY _ h
 .rw [e] at h;unfold zJ at h;rw [p_,f] at h;exact h
theorem Inv.stkFree (I:Inv X B G H s):∀b ∈ zJ X.stack,H b=none:=fun b h=>by
 rcases bj.mp (I.stkSub b h) with e | h
 .rw [e];exact I.free
 .obtain⟨_,o,x,_⟩:=I.ok.funs.mem h;exact I.base.free b o x (I.ok.frf b h) fun z=>I.ok.exfs b z h
theorem Inv.step {g':Array GenState}{t':Nat}{d':Drawn}{ch:List Addr} (I:Inv X B G H s)
  (a:∀b ∈ ch,(b ∈ X.ex\/X.s₀.heap.objs.size≤b)/\b≠X.env.locals/\(∀x c,X.env.cells.lookup x=some c->c≠b)/\∀p ∈ X.pn++B,p.1≠b)
  (t:∀b o,b≠X.env.locals->b ∉ X.fs->b ∉ ch->s.heap.get? b=some o->H b=none->h'.get? b=some o)
  (slot:∀b o,b≠X.env.locals->b ∈ X.fs->b ∉ ch->s.heap.get? b=some o->H b=none->∃J,h'.get? b=some { o with slots:=J }) (f:∀b o,b ∉ ch->s.heap.get? b=some o->H b=none->H' b=none)
  (y:∀b o,b ∉ ch->s.heap.get? b=some o->∃o',h'.get? b=some o')
  (D:∀b xs,H b=some (.tup xs)->H' b=some (.tup xs)) (P:∀b o u,H b=some (.frz o u)->H' b=some (.frz o u)) (A:∀b ps,H b=some (.tbl ps)->∃more,H' b=some (.tbl (ps++more)))
  (ns:∀m,s.heap.Ns X.env.locals m->h'.Ns X.env.locals m) (E:jM X.prog X.w H' h') (U:AllBare g') :
  Inv X B G H' { s with heap:=h',gens:=g',drawn:=d',toks:=t' }:=by
 have L:∀b o,X.s₀.heap.get? b=some o->b≠X.env.locals:=fun b o e=>bo (cj (Heap.lt_size e) I.ok.above);have C:∀b o,X.s₀.heap.get? b=some o->b ∉ X.ex->b ∉ ch:=fun b o e h j=>by
  rcases (a b j).1 with z | z
  .exact h z
  .exact absurd (cj (Heap.lt_size e) z) (i' _)
 have K:∀x c,X.env.cells.lookup x=some c->∀v,s.heap.IsCell c v->h'.IsCell c v:=fun x c e v Y=>by
  obtain⟨o,S,hd⟩:=Y;have w:c ∉ ch:=fun z=>(a c z).2.2.1 x c e rfl;by_cases N:c ∈ X.fs
  .obtain⟨J,q⟩:=slot c o (I.cne x c e) N w S (I.freeC x c e);exact⟨_,q,hd⟩
  .exact⟨o,t c o (I.cne x c e) N w S (I.freeC x c e),hd⟩
 refine⟨I.ok,I.os,U,⟨fun b o e n j h=>?_,fun b o e n j h=>?_,fun b o e n h=>?_,fun b o e h=>?_,fun b xs e=>D b xs (I.base.tups b xs e),fun b o xs e=>P b o xs (I.base.frzs b o xs e),fun b ps e=>?_⟩,?_,fun x c e=>?_,?_,fun x c e=>?_,fun p O=>?_,E,I.len⟩
 .exact t b o (L b o e) j (C b o e h) (I.base.keep b o e n j h) (I.base.free b o e n h)
 .obtain⟨J,g⟩:=I.base.slot b o e n j h;obtain⟨M,F⟩:=slot b _ (L b o e) j (C b o e h) g (I.base.free b o e n h);exact⟨M,F⟩
 .obtain⟨o',g⟩:=I.base.there b o e h;exact f b o' (C b o e h) g (I.base.free b o e n h)
 .obtain⟨o',g⟩:=I.base.there b o e h;exact y b o' (C b o e h) g
 .obtain⟨Z,g⟩:=I.base.tbls b ps e;obtain⟨m2,F⟩:=A b _ g;exact⟨Z++m2,by rw [F,Array.append_assoc]⟩
 .obtain⟨m,W,V⟩:=I.loc;refine⟨m,ns m W,fun i x v g F T=>?_⟩;obtain⟨u,r,l⟩:=V i x v g F T;refine⟨u,r,?_⟩;rcases l with l | ⟨k,c,e,z⟩
  .exact .inl l
  .exact .inr ⟨k,c,e,K x c e _ z⟩
 .obtain⟨v,z⟩:=I.cell x c e;exact⟨v,K x c e v z⟩
 .obtain⟨m,⟨o,_,_,S,_⟩,_⟩:=I.loc;exact f _ o (fun z=>(a _ z).2.1 rfl) S I.free
 .obtain⟨v,o,S,hd⟩:=I.cell x c e;exact f c o (fun z=>(a c z).2.2.1 x c e rfl) S (I.freeC x c e)
 .obtain⟨e,n,Q,R,d⟩:=I.pin p O;have w:p.1 ∉ ch:=fun z=>(a p.1 z).2.2.2 p O rfl;exact⟨t p.1 p.2 Q R w e n,f p.1 p.2 w e n,Q,R,d⟩
theorem Inv.un {t':Nat} (I:Inv X B G H s) (u:Un X.fs [] H H' s.heap h') (k:jM X.prog X.w H' h'):Inv X B G H' { s with heap:=h',toks:=t' }:=by
 obtain⟨m,⟨o,es,q,f,r⟩,_⟩:=id I.loc;obtain⟨l,L⟩:=u.any f I.free (by simp);exact I.step (g':=s.gens) (d':=s.drawn) (ch:=[]) (fun _ z=>nomatch z) (fun b o _ a _ e n=>u.keep b o e n a (by simp)) (fun b o _ a _ e n=>u.slot b o e n a (by simp)) (fun b o _ e n=>u.free b o e n (by simp)) (fun b o _ e=>u.there b o e (by simp)) u.tups u.frzs u.tbls (fun v c=>by obtain⟨o',x,p,h,t⟩:=c;rw [f] at h;cases h;exact⟨_,x,p,L,t⟩) k I.bare
theorem Inv.call {g':Array GenState}{t':Nat}{d':Drawn}{ch:List Addr} (I:Inv X B G H s) (u:Un (zJ X.stack) ch H H' s.heap h') (q:jM X.prog X.w H' h') (g:AllBare g')
  (a:∀b ∈ ch,(b ∈ X.ex\/X.s₀.heap.objs.size≤b)/\b≠X.env.locals/\(∀x c,X.env.cells.lookup x=some c->c≠b)/\∀p ∈ X.pn++B,p.1≠b) :
  Inv X B G H' { s with heap:=h',gens:=g',drawn:=d',toks:=t' }:=by
 obtain⟨m,⟨o,es,j,v,r⟩,_⟩:=id I.loc;obtain⟨y,L⟩:=u.any v I.free fun z=>(a _ z).2.1 rfl;exact I.step (ch:=ch) a (fun b o L d h e n=>u.keep b o e n (fun z=>(bj.mp (I.stkSub b z)).elim L d) h) (fun b o _ _ h e n=>u.any e n h) (fun b o h e n=>u.free b o e n h) (fun b o h e=>u.there b o e h) u.tups u.frzs u.tbls (fun l w=>by obtain⟨o',t,f,k,i⟩:=w;rw [v] at k;cases k;exact⟨_,t,f,L,i⟩) q g
theorem Inv.turned {t':Nat}{i:Addr} (I:Inv X B G H s) (k:∀b o,b≠i->s.heap.get? b=some o->h'.get? b=some o) (g:H i=none) (L:i≠X.env.locals)
  (J:i ∈ X.ex\/X.s₀.heap.objs.size≤i) (h2:∀x c,X.env.cells.lookup x=some c->c≠i) (f:∀p ∈ X.pn++B,p.1≠i):Inv X B G H { s with heap:=h',toks:=t' }:=by
 have t:∀b u,H b=some u->b≠i:=fun b u e z=>by rw [z,g] at e;cases e
 refine I.step (g':=s.gens) (d':=s.drawn) (ch:=[i]) (fun b d=>?_) (fun b o _ _ h e _=>k b o (fun z=>h (by simp [z])) e) (fun b o _ _ h e _=>⟨o.slots,k b o (fun z=>h (by simp [z])) e⟩) (fun _ _ _ _ n=>n)
  (fun b o h e=>⟨o,k b o (fun z=>h (by simp [z])) e⟩) (fun _ _ e=>e) (fun _ _ _ e=>e) (fun b ps e=>⟨#[],by rw [e];simp⟩) (fun m w=>?_) (fun b u e=>?_) I.bare
 .have e:b=i:=by simpa using d
  subst e;exact⟨J,L,h2,f⟩
 .obtain⟨o,es,a,j,r⟩:=w;exact⟨o,es,a,k _ o (Ne.symm L) j,r⟩
 .refine (I.hok b u e).stay (fun c v h q=>k c v ?_ q) (fun _ q=>q) fun _ _ q=>q;rcases h with z | z
  .rw [z];exact t b u e
  .exact t c _ z
theorem Inv.tok (I:Inv X B G H s) (t:Nat):Inv X B G H { s with toks:=t }:=I.un (h':=s.heap) (t':=t) Un.refl I.hok
theorem Inv.kept {t':Nat} (I:Inv X B G H s) (k:∀b u,s.heap.get? b=some u->h'.get? b=some u):Inv X B G H { s with heap:=h',toks:=t' }:=I.un (Un.kept k) (I.hok.kept k)
theorem Inv.laid {a:Addr}{o:HO}{t':Nat} (I:Inv X B G H s) (k:∀b u,s.heap.get? b=some u->h'.get? b=some u) (h:s.heap.objs.size≤a) (n:ce X.prog X.w (cc H a o) h' a o) :
  Inv X B G (cc H a o) { s with heap:=h',toks:=t' }:=I.un (Un.laid k h (I.hok.fresh h)) (I.hok.laid k h n)
theorem Inv.write {x e:Addr}{o:HO}{t:Nat} (I:Inv X B G H s) (m:HJ (H x)) (a:e=x\/H e=some (.own x)) (k:∀b u,b≠e->s.heap.get? b=some u->h'.get? b=some u) (h:∃u,h'.get? e=some u)
  (n:ce X.prog X.w (cc H x o) h' x o):Inv X B G (cc H x o) { s with heap:=h',toks:=t }:=I.un (Un.write m a k h) (I.hok.write m a k h n)
theorem Inv.pins_of (I:Inv X B G H s) (h:∀p ∈ N,s.heap.get? p.1=some p.2/\H p.1=none/\p.1≠X.env.locals/\p.1 ∉ X.fs/\∀v,p.2.data≠.cell v):Inv X N G H s:=
 ⟨I.ok,I.os,I.bare,I.base,I.loc,I.cell,I.free,I.freeC,fun p x=>(cC.mp x).elim (fun z=>I.pin p (j5 _ z)) (h p),I.hok,I.len⟩
theorem ss {N:LS} (s:N.Nodup) {i j:Nat}{x:Str} (a:N[i]? = some x) (b:N[j]? = some x):i=j:=by obtain⟨J,e⟩:=List.getElem?_eq_some_iff.mp a;obtain⟨h2,h⟩:=List.getElem?_eq_some_iff.mp b;exact (List.getElem_inj s).mp (e.trans h.symm)
theorem oZ {M:Model}{A:Around}{E:VP}{i:Nat}{x:Str}{v:V}{u:Value}{Q:Unit->Shared->Prop} (I:Inv X B G H s) (hN:X.N.Nodup) (q:X.N[i]? = some x) (F:Loc X.env.scope x) (r:RelV v u)
  (h:∀z,Inv X B (G.set i (some v)) H z->(∃a,Heap.SameBut a s.heap z.heap/\(a=X.env.locals\/X.env.cells.lookup x=some a))->Q () z) (hf:X.fn x=true\/X.env.scope.names.lookup x=some .local:=by first | exact .inl rfl | exact .inr rfl | assumption):wpAny M A (storeName X.env x u) Q E s:=by
 obtain⟨m,hn,hl⟩:=id I.loc;have U:(X.env.scope.kind == .class || (X.env.scope.kind == .module && X.env.locals != X.env.globals))=false:=by rw [I.ok.kind];rfl
 have C:i < G.length:=by rw [I.len];exact (List.getElem?_eq_some_iff.mp q).1
 have J:=I.cne;have l:∀{a:Addr}{h':Heap},(∃o,s.heap.get? a=some o/\H a=none)->Heap.SameBut a s.heap h'->jM X.prog X.w H h':=fun {a h'} ha w b ob e=>by
  obtain⟨_,_,K⟩:=ha;refine (I.hok b ob e).stay (fun c w' S f=>(w.2 c ?_).trans f) (fun _ f=>f) fun _ _ f=>f;rintro rfl;rcases S with rfl | S
  .rw [K] at e;cases e
  .rw [K] at S;cases S
 rcases F with D | D
 .refine wpAny_storeName_local D hn (fun h' hn' w=>?_) U;obtain⟨oL,_,_,hoL,_⟩:=id hn;refine h _ ⟨I.ok,I.os,I.bare,⟨fun b o e n L F=>?_,fun b o e n L F=>?_,I.base.free,fun b o e F=>?_,I.base.tups,I.base.frzs,I.base.tbls⟩,⟨_,hn',fun j y v' g P e3=>?_⟩,fun y c e=>?_,I.free,I.freeC,fun p hp=>?_,l ⟨oL,hoL,I.free⟩ w,by simpa using I.len⟩ ⟨_,w,.inl rfl⟩
  .exact (w.2 b (bo (cj (Heap.lt_size e) I.ok.above))).trans (I.base.keep b o e n L F)
  .obtain⟨sl,g⟩:=I.base.slot b o e n L F;exact⟨sl,(w.2 b (bo (cj (Heap.lt_size e) I.ok.above))).trans g⟩
  .obtain⟨o',g⟩:=I.base.there b o e F;exact⟨o',(w.2 b (bo (cj (Heap.lt_size e) I.ok.above))).trans g⟩
  .by_cases O:j=i
   .subst O;rw [q] at g;cases g;rw [dP C] at P;cases P;exact⟨u,r,.inl ⟨D,by simp⟩⟩
   .rw [a7 (Ne.symm O)] at P;obtain⟨u',r',f⟩:=hl j y v' g P e3;refine⟨u',r',?_⟩;rcases f with ⟨k,e⟩ | ⟨k,c,e,t⟩
    .refine .inl ⟨k,?_⟩;have:y≠x:=fun e=>O (ss hN g (e ▸ q));simp [this,e]
    .exact .inr ⟨k,c,e,t.sameBut w (J y c e)⟩
  .obtain⟨w',t⟩:=I.cell y c e;exact⟨w',t.sameBut w (J y c e)⟩
  .obtain⟨e,n,ne,nf,d⟩:=I.pin p hp;exact⟨(w.2 p.1 ne).trans e,n,ne,nf,d⟩
 .have N:X.fn x=true:=by
   rcases hf with t | t
   .exact t
   .rw [t] at D;cases D
  obtain⟨c,S⟩:=I.ok.has x (.inl D);obtain⟨w',t⟩:=I.cell x c S;refine wpAny_storeName_cell I.ok.kind D S t (fun h' R w=>?_);obtain⟨oc,W,Y⟩:=id t;refine h { s with heap:=h' } ⟨I.ok,I.os,I.bare,⟨fun b o e n L F=>?_,fun b o e n L F=>?_,I.base.free,fun b o e F=>?_,I.base.tups,I.base.frzs,I.base.tbls⟩,⟨m,hn.sameBut w (Ne.symm (J x c S)),fun j y v' g P e3=>?_⟩,fun y Z e=>?_,I.free,I.freeC,fun p hp=>?_,l ⟨oc,W,I.freeC x c S⟩ w,by simpa using I.len⟩ ⟨c,w,.inr S⟩
  .exact (w.2 b (bo (cj (Heap.lt_size e) (I.ok.cab x c N S)))).trans (I.base.keep b o e n L F)
  .obtain⟨sl,g⟩:=I.base.slot b o e n L F;exact⟨sl,(w.2 b (bo (cj (Heap.lt_size e) (I.ok.cab x c N S)))).trans g⟩
  .obtain⟨o',g⟩:=I.base.there b o e F;exact⟨o',(w.2 b (bo (cj (Heap.lt_size e) (I.ok.cab x c N S)))).trans g⟩
  .by_cases O:j=i
   .subst O;rw [q] at g;cases g;rw [dP C] at P;cases P;exact⟨u,r,.inr ⟨.inl D,c,S,R⟩⟩
   .rw [a7 (Ne.symm O)] at P;obtain⟨u',r',f⟩:=hl j y v' g P e3;refine⟨u',r',?_⟩;rcases f with f | ⟨k,Z,e,z'⟩
    .exact .inl f
    .refine .inr ⟨k,Z,e,z'.sameBut w ?_⟩;rintro rfl;exact O (ss hN g (I.ok.inj _ _ _ e S ▸ q))
  .by_cases T:Z=c
   .subst T;exact⟨_,R⟩
   .obtain⟨w2,z2⟩:=I.cell y Z e;exact⟨w2,z2.sameBut w T⟩
  .obtain⟨e,n,ne,nf,d⟩:=I.pin p hp;refine⟨(w.2 p.1 ?_).trans e,n,ne,nf,d⟩;intro f;rw [f,W] at e;have q':oc=p.2:=Option.some.inj e;exact d w' (by rw [<- q'];exact Y)
theorem sf (I:Inv X B G H s) (N:X.N.Nodup) (q:X.N[i]? = some x) (e:Loc X.env.scope x) (r:RelV v u)
  (h:∀z,Inv X B (G.set i (some v)) H z->Q () z) (f:X.fn x=true\/X.env.scope.names.lookup x=some .local:=by first | exact .inl rfl | exact .inr rfl | assumption):wpAny M A (storeName X.env x u) Q E s:=
 oZ I N q e r (fun z a _=>h z a) f
theorem Inv.call' (I:Inv X B G H s) (n:z.os=s.os) (u:Un (zJ X.stack) N H H' s.heap z.heap) (o:jM X.prog X.w H' z.heap) (a:AllBare z.gens)
  (h:∀b ∈ N,(b ∈ X.ex\/X.s₀.heap.objs.size≤b)/\b≠X.env.locals/\(∀x c,X.env.cells.lookup x=some c->c≠b)/\∀p ∈ X.pn++B,p.1≠b):Inv X B G H' z:=by
 obtain⟨h',g,d,t,o'⟩:=z;have e:o'=s.os:=n;subst e;exact I.call (g':=g) (t':=t) (d':=d) u o a h
end
noncomputable abbrev XK:=Value->Option Addr->Hp->Prop
noncomputable abbrev St:=List (Option V)
noncomputable abbrev VK:=V->Hp->Prop
noncomputable abbrev TE:=St->Hp->VK->Prop
noncomputable abbrev TT:=St->Hp->(Bool->Hp->Prop)->Prop
noncomputable abbrev TA:=St->Hp->(List V->Hp->Prop)->Prop
structure Ends where
 nx:St->Hp->Prop
 rt:VK
 bk:St->Hp->Prop:=fun _ _=>False
 ct:St->Hp->Prop:=fun _ _=>False
noncomputable abbrev TS:=Ends->St->Hp->Prop
noncomputable def EP (X:Cx) (B:PN) (G:St) (Q:VK) (u:Value) (z:Shared):Prop:=∃v H',Inv X B G H' z/\RelV v u/\Q v H'
noncomputable def TP (X:Cx) (B:PN) (G:St) (Q:Bool->Hp->Prop) (b:Bool) (z:Shared):Prop:=∃H',Inv X B G H' z/\Q b H'
noncomputable def AP (X:Cx) (B:PN) (G:St) (Q:List V->Hp->Prop) (Y:LV) (z:Shared):Prop:=∃v H',Inv X B G H' z/\aL v Y/\Q v H'
noncomputable def SP (X:Cx) (B:PN) (D:Ends) (f:Flow) (z:Shared):Prop:=
 match f with
 | .next=>∃h H',Inv X B h H' z/\D.nx h H'
 | .brk=>∃h H',Inv X B h H' z/\D.bk h H'
 | .cont=>∃h H',Inv X B h H' z/\D.ct h H'
 | .ret u=>∃v h H',Inv X B h H' z/\RelV v u/\D.rt v H'
noncomputable def PE (X:Cx) (e:Expr) (t:TE):Prop:=
 ∀(B:PN) (s:Shared) (G:St) (H:Hp) (Q:VK),Inv X B G H s->t G H Q->wpAny (model X.prog X.w) X.A (eval e X.env) (EP X B G Q) X.xe s
noncomputable def PT (X:Cx) (e:Expr) (t:TT):Prop:=
 ∀(B:PN) (s:Shared) (G:St) (H:Hp) (Q:Bool->Hp->Prop),Inv X B G H s->t G H Q->wpAny (model X.prog X.w) X.A (isTrue e X.env (eval e X.env)) (TP X B G Q) X.xe s
noncomputable def PW (X:Cx) (e:Expr) (t:TT):Prop:=
 ∀(w:Sem Value) (B:PN) (s:Shared) (G:St) (H:Hp) (Q:Bool->Hp->Prop),Inv X B G H s->t G H Q->wpAny (model X.prog X.w) X.A (isTrue e X.env w) (TP X B G Q) X.xe s
variable {X:Cx}{e:Expr}
theorem PW.pt (h:PW X e t):PT X e t:=h _
noncomputable def PA (X:Cx) (es:Ab) (t:TA):Prop:=
 ∀(O:Pos) (B:PN) (s:Shared) (G:St) (H:Hp) (Q:List V->Hp->Prop),Inv X B G H s->t G H Q->wpAny (model X.prog X.w) X.A (spliced (backTo O (starEach es X.env))) (AP X B G Q) X.xe s
noncomputable def PS (X:Cx) (st:Stmt) (t:TS):Prop:=
 ∀(B:PN) (s:Shared) (G:St) (H:Hp) (D:Ends),Inv X B G H s->t D G H->wpAny (model X.prog X.w) X.A (exec st X.env) (SP X B D) X.xe s
noncomputable def ms (X:Cx) (st:List Stmt) (t:TS):Prop:=
 ∀(B:PN) (s:Shared) (G:St) (H:Hp) (D:Ends),Inv X B G H s->t D G H->wpAny (model X.prog X.w) X.A (execs st X.env) (SP X B D) X.xe s
variable {M:Model}{A:Around}{E:VP}{s:Shared}
theorem cK (h:wpAny M A t Q E s) (e:∀a s,Q a s->N a s):wpAny M A t N E s:=wpAny_mono h e fun _ _ x=>x
section
variable {X:Cx}
noncomputable def FO (i:Nat):TE:=fun G H Q=>∃v,G[i]? = some (some v)/\Q v H
noncomputable def tC (v:V):TE:=fun _ H Q=>Q v H
theorem yN (N:X.N[i]? = some x) (q:EI X.env.scope x) (hd:(x == ("__debug__":Str))=false:=by decide) (d:(x == ("__classdict__":Str))=false:=by decide):PE X (.Name x O) (FO i):=by
 intro B s G H Q I h;obtain⟨v,e,h⟩:=h;obtain⟨m,p,b⟩:=I.loc;obtain⟨u,r,l⟩:=b i x v N e q;have f:EP X B G Q u s:=⟨v,H,I,r,h⟩;rcases l with ⟨k,t⟩ | ⟨k,c,n,a⟩
 .exact wpAny_Name (wpAny_loadName_local I.ok.kind k p t f) hd
 .rcases k with k | k
  .exact wpAny_Name (wpAny_loadName_cell I.ok.kind k n a f) hd
  .exact wpAny_Name (wpAny_loadName_free I.ok.kind k n a f d) hd
theorem Dz {i N O}:PE X (.Constant (.int i) N O) (tC (.int i)):=fun _ _ _ H _ I h=>wpAny_Constant_int ⟨.int i,H,I.tok _,⟨_,rfl⟩,h⟩
theorem Gn {b N O}:PE X (.Constant (.bool b) N O) (tC (.bl b)):=fun _ _ _ H _ I h=>Constant_bool ⟨.bl b,H,I,rfl,h⟩
theorem Dy {N O}:PE X (.Constant .none N O) (tC .non):=fun _ _ _ H _ I h=>Constant_none ⟨.non,H,I,rfl,h⟩
theorem Dv {x N O}:PE X (.Constant (.str x) N O) (tC (.str x)):=fun _ _ _ H _ I h=>Calls.Constant_str ⟨.str x,H,I.tok _,⟨_,rfl⟩,h⟩
noncomputable def Gl (X:Cx) (x:Str):Prop:=X.env.kindOf x=some .globalImplicit
theorem qG (I:Inv X B G H s) (g:Gl X x) (m:X.mg x=some u) (h:Q u s)
  (hd:(x == ("__debug__":Str))=false:=by decide):wpAny (model X.prog X.w) X.A (eval (.Name x O) X.env) Q E s:=
 Calls.Name_function_global I.ok.kind g (Calls.loadGlobal_global (by rw [I.ok.glob];exact I.mod.glob.keeps I.bk) m h) hd
theorem jo (I:Inv X B G H s) (g:Gl X x) (m:X.mg x=none) (v:bootBuiltins x=some u) (h:Q u s)
  (n:x≠"__name__":=by decide) (hd:(x == ("__debug__":Str))=false:=by decide):wpAny (model X.prog X.w) X.A (eval (.Name x O) X.env) Q E s:=by
 obtain⟨b,J,h2⟩:=I.mod.blt;exact Calls.Name_function_global I.ok.kind g (Calls.loadGlobal_builtin (by rw [I.ok.glob];exact I.mod.glob.keeps I.bk) m (by rw [I.ok.blt];exact J.keeps I.bk) ((h2 x n).trans v) h) hd
theorem Be (g:Gl X x) (m:X.mg x=some u) (r:RelV v u) (hd:(x == ("__debug__":Str))=false:=by decide):PE X (.Name x O) (tC v):=
 fun _ _ _ H _ I h=>qG I g m ⟨v,H,I,r,h⟩ hd
theorem Bf (g:Gl X x) (m:X.mg x=none) (a:bootBuiltins x=some u) (r:RelV v u) (n:x≠"__name__":=by decide) (hd:(x == ("__debug__":Str))=false:=by decide):PE X (.Name x O) (tC v):=
 fun _ _ _ H _ I h=>jo I g m a ⟨v,H,I,r,h⟩ n hd
noncomputable def Lk (ta tb:TE) (k:Int->Int->Hp->Prop):St->Hp->Prop:=fun G H=>ta G H fun x U=>tb G U fun y H2=>∃i j,x=.int i/\y=.int j/\k i j H2
variable {a b:Expr}{ta tb:TE}{O:Pos}
noncomputable def wM (p:Int->Int->Bool) (ta tb:TE):TE:=fun G H Q=>Lk ta tb (fun i j H2=>Q (.bl (p i j)) H2) G H
noncomputable abbrev L6:TE->TE->TE:=wM fun i j=>decide (i < j)
noncomputable abbrev L7:TE->TE->TE:=wM fun i j=>decide (i≤j)
noncomputable abbrev L8:TE->TE->TE:=wM fun i j=>decide (j < i)
noncomputable abbrev L9:TE->TE->TE:=wM fun i j=>decide (j≤i)
noncomputable abbrev Li:TE->TE->TE:=wM fun i j=>decide (i=j)
noncomputable abbrev Lg:TE->TE->TE:=wM fun i j=>!decide (i=j)
variable {tA tB':TT}{ck:Ab}
noncomputable def JA (t u:TT):TT:=fun G H Q=>t G H fun c U=>if c=true then u G U Q else Q false U
noncomputable def Lf (t u:TT):TT:=fun G H Q=>t G H fun c U=>if c=true then Q true U else u G U Q
noncomputable def Ju (t:TT):TT:=fun G H Q=>t G H fun c U=>Q (!c) U
theorem A1 (x:PT X a tA):PW X (.BoolOp .And [a] O) tA:=by
 intro w B s G H Q I h;refine isTrue_and (cK (x B s G H Q I h) fun c n e=>?_);cases c with
 | true=>exact isTrue_and_nil e
 | false=>exact e
theorem Di (x:PT X a tA):PW X (.BoolOp .Or [a] O) tA:=by
 intro w B s G H Q I h;refine isTrue_or (cK (x B s G H Q I h) fun c n e=>?_);cases c with
 | false=>exact isTrue_or_nil e
 | true=>exact e
theorem Dj (e:PT X a tA) (n:PW X (.BoolOp .And (b::ck) O) tB'):PW X (.BoolOp .And (a::b::ck) O) (JA tA tB'):=by
 intro w B s G H Q I h;refine isTrue_and (cK (e B s G H _ I h) fun c k z=>?_);obtain⟨U,x,q⟩:=z;cases c with
 | true=>exact n w B k G U Q x q
 | false=>exact⟨U,x,q⟩
theorem Gg (e:PT X a tA) (n:PW X (.BoolOp .Or (b::ck) O) tB'):PW X (.BoolOp .Or (a::b::ck) O) (Lf tA tB'):=by
 intro w B s G H Q I h;refine isTrue_or (cK (e B s G H _ I h) fun c k z=>?_);obtain⟨U,x,q⟩:=z;cases c with
 | true=>exact⟨U,x,q⟩
 | false=>exact n w B k G U Q x q
theorem Dk (x:PT X a tA):PT X (.UnaryOp .Not a O) (Ju tA):=by intro B s G H Q I h;exact isTrue_not (x B s G H (fun c U=>Q (!c) U) I h)
noncomputable def FZ (ta tb:TE):TE:=fun G H Q=>ta G H fun x U=>∃c,x=.bl c/\if c=true then tb G U Q else Q (.bl false) U
noncomputable def Jt (ta tb:TE):TE:=fun G H Q=>ta G H fun x U=>∃c,x=.bl c/\if c=true then Q (.bl true) U else tb G U Q
noncomputable def FQ (ta:TE):TE:=fun G H Q=>ta G H fun x U=>∃c,x=.bl c/\Q (.bl (!c)) U
theorem Dw {N} (h:PE X a t):PE X (.BoolOp N [a] O) t:=fun B s G H Q I hw=>BoolOp_one (h B s G H Q I hw)
theorem DB (n:PE X a ta) (k:PE X (.BoolOp .And (b::ck) O) tb):PE X (.BoolOp .And (a::b::ck) O) (FZ ta tb):=by
 intro B s G H Q I h;refine BoolOp_and (cK (n B s G H _ I h) fun v f z=>?_);obtain⟨x,U,e,r,q⟩:=z;obtain⟨c,rfl,q⟩:=q;cases r;refine jd ?_;cases c with
 | true=>exact k B f G U Q e q
 | false=>exact⟨.bl false,U,e,rfl,q⟩
theorem Gk (n:PE X a ta) (k:PE X (.BoolOp .Or (b::ck) O) tb):PE X (.BoolOp .Or (a::b::ck) O) (Jt ta tb):=by
 intro B s G H Q I h;refine BoolOp_or (cK (n B s G H _ I h) fun v f z=>?_);obtain⟨x,U,e,r,q⟩:=z;obtain⟨c,rfl,q⟩:=q;cases r;refine jd ?_;cases c with
 | false=>exact k B f G U Q e q
 | true=>exact⟨.bl true,U,e,rfl,q⟩
theorem Dx (n:PE X a ta):PE X (.UnaryOp .Not a O) (FQ ta):=by intro B s G H Q I h;refine UnaryOp_ (cK (n B s G H _ I h) fun v k z=>?_);obtain⟨x,U,e,r,q⟩:=z;obtain⟨c,rfl,q⟩:=q;cases r;exact not_of (jd ⟨.bl (!c),U,e,rfl,q⟩)
noncomputable def Lh (t:TT) (ta tb:TE):TE:=fun G H Q=>t G H fun c U=>if c=true then ta G U Q else tb G U Q
theorem yS (f:PT X c tA) (n:PE X a ta) (k:PE X b tb):PE X (.IfExp c a b O) (Lh tA ta tb):=by
 intro B s G H Q I h;refine wpAny_IfExp (cK (f B s G H _ I h) fun d e z=>?_);obtain⟨U,x,q⟩:=z;cases d with
 | true=>exact n B e G U Q x q
 | false=>exact k B e G U Q x q
end
noncomputable def gQ (K:FG) (H:Hp) (a:Addr) (xs:List V):Prop:=
 Rd H a (.lst xs) \/
  ∃(o:Obj) (i:Array Value) (n:Nat),K.lookup a=some o/\o.cls=.type "list"/\o.dict=none/\o.data=.seq i n/\i.size≤sizeLine/\aL xs i.toList
noncomputable def kT (K:FG) (H:Hp) (a:Addr) (xs:List V):Prop:=
 Rd H a (.tup xs) \/
  ∃(o:Obj) (i:Array Value) (n:Nat),K.lookup a=some o/\o.cls=.type "tuple"/\o.dict=none/\o.data=.seq i n/\i.size≤sizeLine/\aL xs i.toList
noncomputable def Kf:Value->Option V
 | .none=>some .non
 | .bool b=>some (.bl b)
 | .int i _=>some (.int i)
 | .str x _=>some (.str x)
 | .bytes b _=>some (.byt b)
 | .float b _=>some (.flt b)
 | .ref a=>some (.ref a)
 | .type n=>some (.ty n)
 | _=>none
theorem RelV.abs (r:RelV x u):Kf u=some x:=by
 cases x with
 | non=>cases r;rfl
 | bl _=>cases r;rfl
 | int _=>obtain⟨t,rfl⟩:=r;rfl
 | str _=>obtain⟨t,rfl⟩:=r;rfl
 | byt _=>obtain⟨t,rfl⟩:=r;rfl
 | flt _=>obtain⟨t,rfl⟩:=r;rfl
 | ref _=>cases r;rfl
 | ty _=>cases r;rfl
variable {y:V}
theorem RelV.inj (r:RelV x u) (q:RelV y u):x=y:=Option.some.inj (r.abs.symm.trans q.abs)
theorem aL.inj:∀{xs ys:List V}{Y:LV},aL xs Y->aL ys Y->xs=ys
 | _,_,_,.nil,.nil=>rfl
 | _,_,_,.cons r t,.cons h x=>by rw [r.inj h,aL.inj t x]
section
variable {X:Cx}{B:PN}{G:St}{H:Hp}{s:Shared}{a:Addr}{xs ys:List V}
theorem gQ.of {K:FG} (h:H a=some (.lst xs)):gQ K H a xs:=.inl (.inl h)
theorem Inv.list (I:Inv X B G H s) (h:gQ X.K H a xs):∃i:LV,aL xs i/\PlainL s.heap a i.toArray/\xs.length≤sizeLine:=by
 rcases h with h | ⟨o,i,n,k,c,hd,x,f,r⟩
 .obtain⟨z,i,n,r,e⟩:=h.ok I.hok;exact⟨i,r,⟨_,n,e,rfl,rfl,rfl⟩,z⟩
 .refine⟨i.toList,r,⟨o,n,I.kIn a o k,c,hd,by simpa using x⟩,?_⟩;have e:=r.length;simp only [mW] at e;lia
theorem Inv.tuple (I:Inv X B G H s) (h:kT X.K H a xs):∃i:LV,aL xs i/\IsTup s.heap a i.toArray/\xs.length≤sizeLine:=by
 rcases h with h | ⟨o,i,n,k,c,_,x,f,r⟩
 .obtain⟨z,i,r,p⟩:=h.ok I.hok;exact⟨i,r,p.tup,z⟩
 .refine⟨i.toList,r,⟨o,I.kIn a o k,c,n,by simpa using x⟩,?_⟩;have e:=r.length;simp only [mW] at e;lia
theorem Inv.tupleN (I:Inv X B G H s) (h:kT X.K H a xs):∃i:LV,aL xs i/\lG s.heap a i.toArray:=by
 rcases h with q | ⟨o,v,m,e,x,n,k,_,r⟩
 .exact⟨_,(q.ok I.hok).2.choose_spec⟩
 .exact⟨v.toList,r,o,I.kIn a o e,⟨x,m,by simpa using k⟩,n⟩
theorem Inv.list_inj (I:Inv X B G H s) (h:gQ X.K H a xs) (h':gQ X.K H a ys):xs=ys:=by
 obtain⟨t,r,⟨o,n,e,_,_,d⟩,_⟩:=I.list h;obtain⟨i,b,⟨o',c,k,_,_,x⟩,_⟩:=I.list h';rw [e] at k;cases k;rw [d] at x;injection x with f _;have:t=i:=by simpa using congrArg Array.toList f
 subst this;exact r.inj b
theorem Inv.tuple_inj (I:Inv X B G H s) (h:kT X.K H a xs) (h':kT X.K H a ys):xs=ys:=by
 obtain⟨t,r,⟨o,e,_,n,d⟩,_⟩:=I.tuple h;obtain⟨i,b,⟨o',k,_,c,x⟩,_⟩:=I.tuple h';rw [e] at k;cases k;rw [d] at x;injection x with f _;have:t=i:=by simpa using congrArg Array.toList f
 subst this;exact r.inj b
end
noncomputable abbrev Cx.wish (X:Cx) (E:VP):Cx:={ X with xe:=E }
noncomputable abbrev Cx.nox (X:Cx):Cx:=X.wish fun _ _=>False
theorem Cx.Ok.wish (ok:X.Ok) (E:VP):(X.wish E).Ok:=
 ⟨ok.mod,ok.kind,ok.glob,ok.blt,ok.above,ok.inj,ok.has,ok.cab,ok.hd,ok.frames,ok.stk,ok.exf,ok.bs,ok.bsz,ok.noex,ok.exfs,ok.funs,ok.frf⟩
theorem Cx.Ok.unwish (ok:(X.wish E).Ok):X.Ok:=
 ⟨ok.mod,ok.kind,ok.glob,ok.blt,ok.above,ok.inj,ok.has,ok.cab,ok.hd,ok.frames,ok.stk,ok.exf,ok.bs,ok.bsz,ok.noex,ok.exfs,ok.funs,ok.frf⟩
section
variable {X:Cx}{B:PN}{G:St}{H:Hp}{s:Shared}{E:VP}
theorem Inv.wish (I:Inv X B G H s) (E:VP):Inv (X.wish E) B G H s:=⟨I.ok.wish E,I.os,I.bare,I.base,I.loc,I.cell,I.free,I.freeC,I.pin,I.hok,I.len⟩
theorem Inv.unwish (I:Inv (X.wish E) B G H s):Inv X B G H s:=⟨I.ok.unwish,I.os,I.bare,I.base,I.loc,I.cell,I.free,I.freeC,I.pin,I.hok,I.len⟩
theorem SP.unwish (h:SP (X.wish E) B D f z):SP X B D f z:=by
 cases f with
 | next=>obtain⟨x,H',I,q⟩:=h;exact⟨x,H',I.unwish,q⟩
 | brk=>obtain⟨x,H',I,q⟩:=h;exact⟨x,H',I.unwish,q⟩
 | cont=>obtain⟨x,H',I,q⟩:=h;exact⟨x,H',I.unwish,q⟩
 | ret u=>obtain⟨v,x,H',I,r,q⟩:=h;exact⟨v,x,H',I.unwish,r,q⟩
theorem ms.nox {st:List Stmt}{t:TS} (h:ms X.nox st t):ms X st t:=fun B s G H D I hw=>
 wpAny_mono (h B s G H D (I.wish _) hw) (fun _ _ q=>q.unwish) fun _ _ z=>False.elim z
end
section
variable {X:Cx}{st:Stmt}{ck:List Stmt}{t u:TS}{e:Expr}{te:TE}{O:Pos}
noncomputable def FS:TS:=fun D G H=>D.nx G H
noncomputable def Jr (t u:TS):TS:=fun D G H=>t { D with nx:=u D } G H
theorem A3:ms X [] FS:=fun _ _ G H _ I h=>wpAny_execs_nil ⟨G,H,I,h⟩
theorem yG (J:PS X st t) (h2:ms X ck u):ms X (st::ck) (Jr t u):=by
 intro B s G H D I h;refine wpAny_execs_cons (cK (J B s G H { D with nx:=u D } I h) fun f e q=>?_);cases f with
 | next=>obtain⟨x,H',a,q⟩:=q;exact h2 B e x H' D a q
 | ret v=>exact q
 | brk=>exact q
 | cont=>exact q
theorem A2 (J:PS X st t):ms X [st] t:=by
 intro B s G H D I h;refine wpAny_execs_cons (cK (J B s G H D I h) fun f x q=>?_);cases f with
 | next=>exact wpAny_execs_nil q
 | ret v=>exact q
 | brk=>exact q
 | cont=>exact q
theorem Inv.quiet (I:Inv X B G H s):interactive X.env=false:=by simp [interactive,I.ok.kind]
noncomputable def FU (te:TE):TS:=fun D G H=>te G H fun _ U=>D.nx G U
theorem A4 (n:PE X e te) (k:swapsWith e none O.line X.env=pure false:=by rfl):PS X (.Expr e O) (FU te):=by intro B s G H D I h;exact wpAny_Expr_any (cK (n B s G H _ I h) fun v f z=>by obtain⟨x,U,a,r,q⟩:=z;exact⟨G,U,a,q⟩) I.quiet k
noncomputable def Js (te:TE):TS:=fun D G H=>te G H D.rt
theorem Dm (n:PE X e te):PS X (.Return (some e) O) (Js te):=by intro B s G H D I h;exact wpAny_Return_some (cK (n B s G H _ I h) fun v k z=>by obtain⟨x,U,a,r,q⟩:=z;exact⟨x,G,U,a,r,q⟩)
noncomputable def Jw (c:TT) (t u:TS):TS:=fun D G H=>c G H fun b U=>if b=true then t D G U else u D G U
theorem Gh {c:Expr}{a b:List Stmt}{tc:TT} (f:PT X c tc) (n:ms X a t) (k:ms X b u):PS X (.If c a b O) (Jw tc t u):=by
 intro B s G H D I h;refine wpAny_If (cK (f B s G H _ I h) fun d e z=>?_);obtain⟨U,x,q⟩:=z;cases d with
 | true=>exact n B e G U D x q
 | false=>exact k B e G U D x q
noncomputable def ym:TS:=fun _ _ _=>False
theorem yH:PS X st ym:=fun _ _ _ _ _ _ h=>h.elim
theorem wS:ms X N ym:=fun _ _ _ _ _ _ h=>h.elim
end
noncomputable abbrev TG:=V->St->Hp->(St->Hp->Prop)->Prop
noncomputable abbrev EL:=List V->St->Hp->(St->Hp->Prop)->Prop
noncomputable def PG (X:Cx) (a:Expr) (t:TG):Prop:=
 ∀(B:PN) (s:Shared) (G:St) (H:Hp) (v:V) (u:Value) (Q:St->Hp->Prop),Inv X B G H s->RelV v u->t v G H Q ->
  wpAny (model X.prog X.w) X.A (assign a X.env u) (fun _ z=>∃h H',Inv X B h H' z/\Q h H') X.xe s
noncomputable def HI (X:Cx) (x:Ab) (t:EL):Prop:=
 ∀(B:PN) (s:Shared) (G:St) (H:Hp) (v:List V) (Y:LV) (Q:St->Hp->Prop),Inv X B G H s->aL v Y->t v G H Q ->
  wpAny (model X.prog X.w) X.A (assignInOrder ((assignEach x X.env).map (·.2)) Y) (fun _ z=>∃h H',Inv X B h H' z/\Q h H') X.xe s
noncomputable abbrev EK:=V->V->V->Hp->(Hp->Prop)->Prop
noncomputable def HG (X:Cx) (t:EK):Prop:=
 ∀(B:PN) (s:Shared) (G:St) (H:Hp) (o i v:V) (x h u:Value) (Q:Hp->Prop),Inv X B G H s->RelV o x->RelV i h->RelV v u->t o i v H Q ->
  wpAny (model X.prog X.w) X.A (setItem x h u) (fun _ z=>∃H',Inv X B G H' z/\Q H') X.xe s
noncomputable abbrev Ma:=V->V->Hp->VK->Prop
section
variable {X:Cx}{O:Pos}
noncomputable def Cs (i:Nat):TG:=fun v G H Q=>Q (G.set i (some v)) H
theorem Ba (N:X.N.Nodup) (q:X.N[i]? = some x) (e:Loc X.env.scope x) (f:X.fn x=true\/X.env.scope.names.lookup x=some .local:=by first | exact .inl rfl | exact .inr rfl | assumption):PG X (.Name x O) (Cs i):=by intro B s G H v u Q I r h;exact wpAny_assign_Name (sf I N q e r (fun z a=>⟨_,H,a,h⟩) f)
noncomputable def J8:EL:=fun v G H Q=>v=[]/\Q G H
noncomputable def He (t:TG) (u:EL):EL:=fun s G H Q=>∃v r,s=v::r/\t v G H fun h H'=>u r h H' Q
theorem A':HI X [] J8:=by intro B s G H v Y Q I r h;obtain⟨e,h⟩:=h;subst e;cases r;exact assignInOrder_nil ⟨G,H,I,h⟩
theorem yM {e:Expr}{es:Ab}{t:TG}{u:EL} (J:PG X e t) (h2:HI X es u)
  (k:(assignEach (e::es) X.env).map (·.2)=assign e X.env::(assignEach es X.env).map (·.2):=by rfl):HI X (e::es) (He t u):=by
 intro B s G H m Y Q I r h;obtain⟨v,c,n,h⟩:=h;subst n;cases r with
 | cons r f=>rw [k];refine assignInOrder_cons (cK (J B s G H _ _ _ I r h) fun _ b z=>?_);obtain⟨x,U,a,q⟩:=z;exact h2 B b x U _ _ Q a f q
noncomputable def J6 (K:FG) (n:Nat) (t:EL):TG:=fun v G H Q=>∃a xs,v=.ref a/\kT K H a xs/\xs.length=n/\t xs G H Q
theorem Dt (p:X.calm=true) (h:HI X es t)
  (q:(assignEach es X.env).length=n:=by rfl) (x:(assignEach es X.env).findIdx? (·.1)=none:=by rfl):PG X (.Tuple es k O) (J6 X.K n t):=by
 intro B s G H v u Q I r hw;obtain⟨a,xs,m,d,l,hw⟩:=hw;subst m;cases r;obtain⟨i,f,w,z⟩:=I.tuple d;refine assign_Tuple_tuple (I.ok.hd p) w (by simp [q,<- l,f.length]) x fun h' g=>?_
 have c:Inv X B G H { s with heap:=h' }:=I.kept (t':=s.toks) fun b o e=>g b o (bo (Heap.lt_size e)) e;exact h B _ G H xs _ Q c (by simpa using f) hw
noncomputable def J7 (to x:TE) (t:EK):TG:=fun v G H Q=>to G H fun o U=>x G U fun i H2=>t o i v H2 fun h=>Q G h
theorem Du {o i:Expr}{to a:TE}{t:EK} (c:PE X o to) (q:PE X i a) (m:HG X t)
  (b:∀v,assign (.Subscript o i O) X.env v=(do
   let N <- holding [v] (eval o X.env)
   let iv <- holding [v,N] (eval i X.env)
   standAt O
   holding [v,N,iv] (setItem N iv v)
   release [v,N,iv] []):=by intro _;rfl):PG X (.Subscript o i O) (J7 to a t):=by
 intro B s G H v u Q I r h;rw [b];refine wpAny_bind (wpAny_holding (cK (c B s G H _ I h) fun N l z=>?_));obtain⟨x,U,n,g,p⟩:=z;refine wpAny_bind (wpAny_holding (cK (q B l G U _ n p) fun iv S z=>?_));obtain⟨y,H2,k,j,d⟩:=z;refine wpAny_bind (wpAny_standAt (wpAny_bind (wpAny_holding (cK (m B S G H2 x y v N iv u _ k g j r d) fun _ F z=>?_))));obtain⟨e,f,w⟩:=z;exact wpAny_release ⟨G,e,f,w⟩
noncomputable def FY (te:TE) (g:TG):TS:=fun D G H=>te G H fun x U=>g x G U D.nx
theorem yI {tg e:Expr}{te:TE}{g:TG} (n:PE X e te) (k:PG X tg g) (f:swapsWithSole [tg] e O.line X.env=pure false:=by rfl) (hw:swappedStores [tg] e X.env=pure none:=by rfl)
  (J:(assignEach [tg] X.env).map (·.2)=[assign tg X.env]:=by rfl):PS X (.Assign [tg] e O) (FY te g):=by
 intro B s G H D I h;refine wpAny_Assign_stores (cK (n B s G H _ I h) fun v c z=>?_) f hw;obtain⟨x,U,a,r,b⟩:=z;rw [J];exact cK (k B c G U x v _ a r b) fun _ m q=>q
theorem Dl (N:X.N.Nodup) (q:X.N[i]? = some x) (c:Loc X.env.scope x) (k:PE X e te) (b:swapsWith e (some (.Name x pos')) O.line X.env=pure false:=by rfl) (f:X.fn x=true\/X.env.scope.names.lookup x=some .local:=by first | exact .inl rfl | exact .inr rfl | assumption) :
  PS X (.Assign [.Name x pos'] e O) (FY te (Cs i)):=by
 intro B s G H D I h;refine wpAny_Assign_Name (cK (k B s G H _ I h) fun v t z=>?_) b;obtain⟨y,U,a,r,m⟩:=z;exact sf a N q c r (fun p n=>⟨_,U,n,m⟩) f
end
structure It where
 go:Nat->Hp->Prop
 yld:Nat->Hp->V->Hp->Prop
 stop:Nat->Hp->Prop
noncomputable def rR (X:Cx) (B:PN) (H:Hp) (b:Addr):Prop:=
 H b=none/\b≠X.env.locals/\b ∉ X.fs/\(b ∈ X.ex\/X.s₀.heap.objs.size≤b)/\(∀x c,X.env.cells.lookup x=some c->c≠b)/\∀p ∈ X.pn++B,p.1≠b
variable {B:PN}{G:St}
theorem Inv.fpOk (I:Inv X B G H s) (h:s.heap.objs.size≤b) (n:H' b=none):rR X B H' b:=by
 refine⟨n,Nat.ne_of_gt (cj I.lt h),I.nofs h,.inr (aM I.sz h),fun x c e z=>?_,fun p a z=>?_⟩
 .obtain⟨v,q⟩:=I.cell x c e;exact absurd (cj q.lt (by rw [z];exact h)) (i' _)
 .exact absurd (cj (Heap.lt_size (I.pin p a).1) (by rw [z];exact h)) (i' _)
structure Turn (P:Program) (w:World) (K:FG) (tg:Expr) (J:It) (fp:List Addr) (it:Addr) (tn:Nat->Heap->Prop):Prop where
 mem:it ∈ fp
 obj:∀i h,tn i h->∀b ∈ fp,∃o,h.get? b=some o/\∀v,o.data≠.cell v
 keep:∀i h h',tn i h->(∀b ∈ fp,∀o,h.get? b=some o->h'.get? b=some o)->tn i h'
 item:∀(X:Cx),X.prog=P->X.w=w->X.K=K->X.calm=true->∀(i:Nat) (pins:PN) (s:Shared) (σ:St) (H:Hp) (E:VP),Inv X pins σ H s->(∀b ∈ fp,rR X pins H b)->tn i s.heap->J.go i H ->
  wpAny (model P w) X.A (pyNext (.ref it)) (fun r s1=>∃u,r=some u /\
   wpAny (model P w) X.A (letOwnedTupleGo tg (.ref it) u) (fun _ s2=>∃x H',Inv X pins σ H' s2/\RelV x u/\J.yld i H x H'/\tn (i+1) s2.heap/\∀b ∈ fp,H' b=none) E s1) E s
 done:∀(X:Cx),X.prog=P->X.w=w->X.K=K->X.calm=true->∀(i:Nat) (pins:PN) (s:Shared) (σ:St) (H:Hp) (E:VP),Inv X pins σ H s->(∀b ∈ fp,rR X pins H b)->tn i s.heap->J.stop i H ->
  wpAny (model P w) X.A (pyNext (.ref it)) (fun r s1=>r=none/\Inv X pins σ H s1) E s
 self:∀(A:Around) (i:Nat) (s:Shared) (Q:VP) (E:VP),tn i s.heap->Q (.ref it) s->wpAny (model P w) A (pyIter (.ref it)) Q E s
noncomputable abbrev TI:=St->Hp->(It->Hp->Prop)->Prop
noncomputable def IF (X:Cx) (B:PN) (G:St) (tg:Expr) (R:It->Hp->Prop) (i:Value) (s:Shared):Prop:=
 ∃(t:Addr) (f:List Addr) (n:Nat->Heap->Prop) (J:It) (H':Hp),i=.ref t/\Inv X B G H' s/\Turn X.prog X.w X.K tg J f t n/\n 0 s.heap/\(∀b ∈ f,rR X B H' b)/\R J H'
noncomputable def PI (X:Cx) (tg iter:Expr) (w:TI):Prop:=
 ∀(B:PN) (s:Shared) (G:St) (H:Hp) (R:It->Hp->Prop),Inv X B G H s->w G H R ->
  wpAny (model X.prog X.w) X.A (eval iter X.env) (fun v h=>wpAny (model X.prog X.w) X.A (pyIter v) (IF X B G tg R) X.xe h) X.xe s
variable {tg:Expr}
theorem vX (e:s.heap.get? N=some o) (c:o.cls=.type n) (hd:o.data=.fields vs)
    (a:["enumerate","zip","dict_itemiterator","dict_reverseitemiterator","odict_iterator","itertools.zip_longest","itertools.pairwise"].contains n=false) (x:Q () s):wpAny M A (letOwnedTupleGo tg (.ref N) u) Q E s:=by
  unfold letOwnedTupleGo;cases tg <;> first
    | exact wpAny_pure x
    | (cases u <;> first
        | exact wpAny_pure x
        | (refine wpAny_bind (wpAny_load e ?_)
           rw [c,hd];show wpAny M A (if (["enumerate","zip","dict_itemiterator","dict_reverseitemiterator","odict_iterator","itertools.zip_longest","itertools.pairwise"].contains n && vs[0]? == some (rawInt _))=true then _ else _) Q E s;rw [if_neg (by intro h;rw [a,Bool.false_and] at h;cases h)];exact wpAny_pure x))
noncomputable def II (K:FG) (a:Addr):It:=
 ⟨fun i H=>∃xs x,gQ K H a xs/\xs[i]? = some x,fun i H x H'=>H'=H/\∀xs,gQ K H a xs->xs[i]? = some x,fun i H=>∃xs,gQ K H a xs/\xs.length≤i⟩
noncomputable def K5 (K:FG) (a:Addr):It:=
 ⟨fun i H=>∃xs x,kT K H a xs/\xs[i]? = some x,fun i H x H'=>H'=H/\∀xs,kT K H a xs->xs[i]? = some x,fun i H=>∃xs,kT K H a xs/\xs.length≤i⟩
noncomputable def IH (I:Int) (n:Nat):It:=⟨fun i _=>i < n,fun i H x H'=>H'=H/\x=.int (I+i),fun i _=>n≤i⟩
variable {w:World}{K:FG}
theorem wG (a t:Addr):Turn P w K tg (II K a) [t] t (fun i h=>h.IsListIter t a i) where
 mem:=by simp
 obj:=fun i h st b n=>by
  have e:b=t:=by simpa using n
  subst e;obtain⟨o,e,c,d⟩:=st;exact⟨o,e,fun v z=>by rw [d] at z;cases z⟩
 keep:=fun i h h' st k=>st.at fun o e=>k t (by simp) o e
 item:=by
  intro X F hw S L i B s G H E I m st A;subst F hw S;obtain⟨xs,x,q,C⟩:=A;obtain⟨D,J,p,T⟩:=I.list q;obtain⟨u,Q,U⟩:=J.get C;obtain⟨r,g,O,j,l,y⟩:=m t (by simp);refine wpAny_pyNext_list_item st p.isList (x:=u) (by simpa using Q) fun h' f V=>?_
  have M:Inv X B G H { s with heap:=h' }:=I.turned (t':=s.toks) (fun b o n e=>(V.2 b n).trans e) r g j l y;obtain⟨o,e,c,d⟩:=id f;exact⟨u,rfl,vX (s:={ s with heap:=h' }) e c d (by decide) ⟨x,H,M,U,⟨rfl,fun ys R=>by rw [I.list_inj R q];exact C⟩,f,fun b n=>(m b n).1⟩⟩
 done:=by intro X F hw S L i B s G H E I m st A;subst F hw S;obtain⟨xs,q,C⟩:=A;obtain⟨D,J,p,T⟩:=I.list q;obtain⟨r,g,O,j,l,y⟩:=m t (by simp);have W:=J.length;exact wpAny_pyNext_list_end (I.ok.hd L) st p.isList (by simp;lia) fun h' N=>⟨rfl,I.turned (t':=s.toks) (fun b o n e=>N b o n e) r g j l y⟩
 self:=fun _ _ _ _ _ st h=>wpAny_pyIter_listiter st h
theorem uf (a t:Addr):Turn P w K tg (K5 K a) [t] t (fun i h=>h.IsTupleIter t a i) where
 mem:=by simp
 obj:=fun i h st b n=>by
  have e:b=t:=by simpa using n
  subst e;obtain⟨o,e,c,d⟩:=st;exact⟨o,e,fun v z=>by rw [d] at z;cases z⟩
 keep:=fun i h h' st k=>st.at fun o e=>k t (by simp) o e
 item:=by
  intro X A hw F L i B s G H E I r st C;subst A hw F;obtain⟨xs,x,q,D⟩:=C;obtain⟨f,J,p,T⟩:=I.tuple q;obtain⟨u,Q,U⟩:=J.get D;obtain⟨g,j,O,l,y,S⟩:=r t (by simp);refine wpAny_pyNext_tuple_item st (show s.heap.IsTuple a f.toArray from p) (x:=u) (by simpa using Q) fun h' m V=>?_
  have M:Inv X B G H { s with heap:=h' }:=I.turned (t':=s.toks) (fun b o n e=>(V.2 b n).trans e) g j l y S;obtain⟨o,e,c,d⟩:=id m;exact⟨u,rfl,vX (s:={ s with heap:=h' }) e c d (by decide) ⟨x,H,M,U,⟨rfl,fun ys R=>by rw [I.tuple_inj R q];exact D⟩,m,fun b n=>(r b n).1⟩⟩
 done:=by intro X A hw F L i B s G H E I r st C;subst A hw F;obtain⟨xs,q,D⟩:=C;obtain⟨f,J,p,T⟩:=I.tuple q;obtain⟨g,j,O,l,y,S⟩:=r t (by simp);have W:=J.length;exact wpAny_pyNext_tuple_end (I.ok.hd L) st (show s.heap.IsTuple a f.toArray from p) (by simp;lia) fun h' N=>⟨rfl,I.turned (t':=s.toks) (fun b o n e=>N b o n e) g j l y S⟩
 self:=fun _ _ _ _ _ st h=>wpAny_pyIter_tupleiter st h
theorem ug (a:Addr) (I:Int) (n:Nat):Turn P w K tg (IH I n) [a] a (fun i h=>IsRangeIter h a (I+(i:Nat) * 1) ((n:Int)-(i:Nat)) 1) where
 mem:=by simp
 obj:=fun i h st b f=>by
  have e:b=a:=by simpa using f
  subst e;exact⟨_,st,fun v z=>by have J:Data.fields _=Data.cell v:=z;cases J⟩
 keep:=fun i h h' st k=>k a (by simp) _ st
 item:=by
  intro X j hw g l i B s G H E x m st y;subst j hw g;obtain⟨r,p,A,q,d,u⟩:=m a (by simp);have W:=Walks.range (prog:=X.prog) (w:=X.w) (x.ok.hd l) a I 1 n;refine W.item i s _ _ y st fun v h' tk C c D=>?_
  obtain⟨t,rfl⟩:=C;have S:Inv X B G H { s with heap:=h',toks:=tk }:=x.turned (fun b o f e=>D b o (by simpa using f) e) r p q d u;refine⟨_,rfl,vX (s:={ s with heap:=h',toks:=tk }) (n:="range_iterator") c rfl rfl (by decide) ⟨.int (I+i),H,S,⟨t,?_⟩,⟨rfl,rfl⟩,c,fun b f=>(m b f).1⟩⟩;rw [Int.mul_one]
 done:=by intro X j hw g l i B s G H E x m st y;subst j hw g;obtain⟨r,p,A,q,d,u⟩:=m a (by simp);exact wpAny_pyNext_range_end (x.ok.hd l) st (by have:n≤i:=y;lia) fun h' F=>⟨rfl,x.turned (t':=s.toks) (fun b o f e=>F b o f e) r p q d u⟩
 self:=fun _ _ _ _ _ st h=>wpAny_pyIter_rangeiter st h
section
variable {X:Cx}{tg:Expr}
theorem yC {I q:Int}{t u v:Tok}{tk:Nat} (h:Inv X B G H s) (J:-(2 ^ 62)≤I) (h2:I < 2 ^ 62) (f:-(2 ^ 62)≤q) (c:q < 2 ^ 62)
  (x:R (IH I (q-I).toNat) H):wpAny (model X.prog X.w) X.A (pyIter (.ref s.heap.objs.size)) (IF X B G tg R) E { s with heap:=s.heap.push { cls:=.type "range",data:=.fields #[.int I t,.int q u,.int 1 v] },toks:=tk }:=by
 refine wpAny_pyIter_range (IsRange.new ..) (small_one J h2 f c) ?_;have a:Inv X B G H { s with heap:=s.heap.push { cls:=.type "range",data:=.fields #[.int I t,.int q u,.int 1 v] },toks:=tk }:=h.kept fun b o e=>Heap.get?_push_of_some _ e;refine⟨(s.heap.push { cls:=.type "range",data:=.fields #[.int I t,.int q u,.int 1 v] }).objs.size,[(s.heap.push { cls:=.type "range",data:=.fields #[.int I t,.int q u,.int 1 v] }).objs.size],_,_,H,rfl,
  a.kept (t':=tk) fun b o e=>Heap.get?_push_of_some _ e,ug _ I (q-I).toNat,?_,fun b m=>?_,x⟩
 .have n:I+((0:Nat):Int) * 1=I:=by simp
  have k:(((q-I).toNat:Nat):Int)-((0:Nat):Int)=Builtin.Range.rangeSize I q 1:=by rw [rangeSize_one];split <;> lia
  show IsRangeIter _ _ (I+((0:Nat):Int) * 1) ((((q-I).toNat:Nat):Int)-((0:Nat):Int)) 1;rw [n,k];exact Heap.get?_push_size _ rfl
 .have e:b=(s.heap.push { cls:=.type "range",data:=.fields #[.int I t,.int q u,.int 1 v] }).objs.size:=by simpa using m
  subst e;exact a.fpOk (Nat.le_refl _) (a.hok.fresh (Nat.le_refl _))
noncomputable def G8 (ta:TA):TI:=fun G H R=>ta G H fun v U=>∃j:Int,v=[.int j]/\-(2 ^ 62)≤j/\j < 2 ^ 62/\R (IH 0 j.toNat) U
theorem wV {a:Expr}{ta:TA}{p O:Pos} (g:Gl X "range") (m:X.mg "range"=none) (k:PA X [a] ta) (f:starEach [a] X.env=[(false,eval a X.env)]:=by rfl):PI X tg (.Call (.Name "range" p) [a] [] O) (G8 ta):=by
 intro B s G H R I h;refine Call_ (jo I g m boot_range (k4 (cK (k O B s G H _ I h) fun Y d z=>?_) f rfl));obtain⟨w,U,n,c,x⟩:=z;obtain⟨j,e,x,b,q⟩:=x;subst e;cases c with
 | cons r v=>cases v;obtain⟨t,rfl⟩:=r;exact call_range_1 (yC n (by lia) (by lia) x b (by simpa using q))
noncomputable def Jx (w:TI) (g:TG) (tb:TS):TS:=fun D G H=>w G H fun J U=>∃W:Nat->Nat->St->Hp->Prop,(∃m,W 0 m G U)/\∀i m G H,W i m G H ->
 (J.stop i H/\D.nx G H)\/(J.go i H/\∃N:St->Hp->Prop,(∀h H',N h H'->∃e,e < m/\W (i+1) e h H')/\∀x H',J.yld i H x H'->g x G H' fun a H2=>tb { D with nx:=N,ct:=N,bk:=D.nx } a H2)
noncomputable def lc (f:List Addr) (h:Heap):PN:=f.filterMap fun b=>(h.get? b).map fun o=>(b,o)
theorem iL (x:b ∈ N) (e:h.get? b=some o):(b,o) ∈ lc N h:=pO.mpr ⟨b,x,by rw [e];rfl⟩
theorem wY (s:p ∈ lc N h):p.1 ∈ N/\h.get? p.1=some p.2:=by
 obtain⟨b,a,e⟩:=pO.mp s;cases q:h.get? b with
 | none=>rw [q] at e;cases e
 | some o=>rw [q] at e;have x:(b,o)=p:=Option.some.inj e;subst x;exact⟨a,q⟩
theorem Inv.pinned (I:Inv X B G H s) (k:∀b ∈ N,rR X B H b) (c:∀b ∈ N,∃o,s.heap.get? b=some o/\∀v,o.data≠.cell v):Inv X (B++lc N s.heap) G H s:=
 I.pins_of fun p m=>(cC.mp m).elim (fun z=>I.pin p (dX _ z)) fun z=>by obtain⟨x,e⟩:=wY z;obtain⟨f,a,n,_⟩:=k p.1 x;obtain⟨o,h,d⟩:=c p.1 x;rw [e] at h;cases h;exact⟨e,f,a,n,d⟩
theorem Inv.unpinned (I:Inv X (B++N) G H s):Inv X B G H s:=I.pins_of fun p h=>I.pin p (dX _ (j5 _ h))
theorem Dn {iter:Expr}{y:List Stmt}{wi:TI}{g:TG}{tb:TS}{O:Pos} (A:PassesOwn (model X.prog X.w) X.A X.env X.xe) (hc:X.calm=true) (q:PI X tg iter wi) (hg:PG X tg g) (p:ms X y tb)
  (hs:∀x,foldedSetIterable iter X.env x=pure x:=by intro _;rfl):PS X (.For tg iter y [] O) (Jx wi g tb):=by
 intro B s G H D I h;refine wpAny_For (cK (q B s G H _ I h) fun v s1 J=>cK J fun itv s2 h2=>?_) hs;obtain⟨it,K,tn,a,H2,e,I2,T,Y,f2,W,⟨m0,w0⟩,L⟩:=h2;subst e;have w:∀{H':Hp},(∀b ∈ K,H' b=none)->∀b ∈ K,rR X B H' b:=fun hn b p=>⟨hn b p,(f2 b p).2⟩
 refine codeAny_forLoop_any (fun n z=>∃i j H',Inv X B j H' z/\tn i z.heap/\(∀b ∈ K,H' b=none)/\W i n j H') ?_ m0 ⟨0,G,H2,I2,Y,fun b p=>(f2 b p).1,w0⟩;rintro n s3 ⟨i,l,M,I3,rT,P,w3⟩;rcases L i n l M w3 with ⟨E,qn⟩ | ⟨go,N,hN,step⟩
 .refine mR A (cK (T.done X rfl rfl rfl hc i B s3 l M X.xe I3 (w P) rT E) fun r s4 F=>?_);obtain⟨U,I4⟩:=F;subst U;exact wpAny_execs_nil ⟨l,M,I4,qn⟩
 .refine mR A (cK (T.item X rfl rfl rfl hc i B s3 l M X.xe I3 (w P) rT go) fun r s4 F=>?_);obtain⟨u,U,h4⟩:=F;subst U;refine mR A (cK h4 fun _ s5 F=>?_);obtain⟨x,H5,I5,r5,y5,F0,R⟩:=F;have Q:=I5.pinned (w R) (T.obj _ _ F0);refine mR A (cK (hg _ s5 l H5 x u _ Q r5 (step x H5 y5)) fun _ s6 F=>?_);obtain⟨Z,H6,I6,q6⟩:=F;refine mR A (cK (p _ s6 Z H6 _ I6 q6) fun f V S=>?_);have again:∀{k:St}{c:Hp},Inv X (B++lc K s5.heap) k c V->N k c->∃m,m < n/\∃i j H',Inv X B j H' V/\tn i V.heap/\(∀b ∈ K,H' b=none)/\W i m j H':=fun {k c} t C=>by
   obtain⟨m',hm,w7⟩:=hN k c C;refine⟨m',hm,i+1,k,c,t.unpinned,T.keep _ _ _ F0 fun b p o e=>(t.pin (b,o) (dX _ (dX _ (iL p e)))).1,fun b p=>?_,w7⟩;obtain⟨o,e,d⟩:=T.obj _ _ F0 b p;exact (t.pin (b,o) (dX _ (dX _ (iL p e)))).2.1
  cases f with
  | next=>obtain⟨k,c,t,C⟩:=S;exact again t C
  | cont=>obtain⟨k,c,t,C⟩:=S;exact again t C
  | brk=>obtain⟨k,c,t,S⟩:=S;exact⟨k,c,t.unpinned,S⟩
  | ret v=>obtain⟨x7,k,c,t,r7,S⟩:=S;exact⟨x7,k,c,t.unpinned,r7,S⟩
end
noncomputable abbrev R2:=V->V->Hp->VK->Prop
noncomputable def io (X:Cx) (f:Value->Value->Sem Value) (r:R2):Prop:=
 ∀(B:PN) (s:Shared) (G:St) (H:Hp) (x y:V) (v u:Value) (Q:VK),Inv X B G H s->RelV x v->RelV y u->r x y H Q ->
  wpAny (model X.prog X.w) X.A (f v u) (EP X B G Q) X.xe s
noncomputable def Kg (X:Cx) (f:Value->Sem Value) (r:V->Hp->VK->Prop):Prop:=
 ∀(B:PN) (s:Shared) (G:St) (H:Hp) (x:V) (v:Value) (Q:VK),Inv X B G H s->RelV x v->r x H Q ->
  wpAny (model X.prog X.w) X.A (f v) (EP X B G Q) X.xe s
noncomputable def c6 (X:Cx) (f:Value) (r:List V->Hp->VK->Prop):Prop:=
 ∀(B:PN) (s:Shared) (G:St) (H:Hp) (xs:List V) (Y:LV) (Q:VK),Inv X B G H s->aL xs Y->r xs H Q ->
  wpAny (model X.prog X.w) X.A (call f Y) (EP X B G Q) X.xe s
noncomputable def Kh (X:Cx) (r:V->Hp->(Bool->Hp->Prop)->Prop):Prop:=
 ∀(B:PN) (s:Shared) (G:St) (H:Hp) (x:V) (v:Value) (Q:Bool->Hp->Prop),Inv X B G H s->RelV x v->r x H Q ->
  wpAny (model X.prog X.w) X.A (truthy v) (TP X B G Q) X.xe s
noncomputable def C3 (r:R2) (ta tb:TE):TE:=fun G H Q=>ta G H fun x U=>tb G U fun y H2=>r x y H2 Q
noncomputable def Ld (r:V->Hp->VK->Prop) (ta:TE):TE:=fun G H Q=>ta G H fun x U=>r x U Q
noncomputable def rI (C:Int->Int->Prop) (g:Int->Int->V):R2:=fun x y H Q=>∃i j,x=.int i/\y=.int j/\C i j/\Q (g i j) H
noncomputable def AY (g:Int->Int->V):R2:=fun x y H Q=>∃i j,x=.int i/\y=.int j/\Q (g i j) H
noncomputable def rU (g:Int->V):V->Hp->VK->Prop:=fun x H Q=>∃i,x=.int i/\Q (g i) H
section
variable {X:Cx}{a b c:Expr}{ta tb tc:TE}{O:Pos}
theorem EF (r:PE X a ta) (t:PE X b tb) {B:PN}{s:Shared}{G:St}{H:Hp}{R:V->V->Hp->Prop} (I:Inv X B G H s)
  (h:ta G H fun x U=>tb G U fun y H2=>R x y H2) {Q:VP}{f:Value->Value->Sem Value}
  (p:∀v u k x y H2,Inv X B G H2 k->RelV x v->RelV y u->R x y H2->wpAny (model X.prog X.w) X.A (f v u) Q X.xe k) :
  wpAny (model X.prog X.w) X.A (eval a X.env) (fun v e=>wpAny (model X.prog X.w) X.A (eval b X.env) (fun u n=>wpAny (model X.prog X.w) X.A (f v u) Q X.xe n) X.xe e) X.xe s:=by
 refine cK (r B s G H _ I h) fun v i z=>?_;obtain⟨x,U,c,w,q⟩:=z;refine cK (t B i G U _ c q) fun u k z=>?_;obtain⟨y,H2,m,g,d⟩:=z;exact p v u k x y H2 m w g d
theorem Gm {o:Operator}{r:R2} (f:io X (binaryOp o) r) (n:PE X a ta) (k:PE X b tb):PE X (.BinOp a o b O) (C3 r ta tb):=by intro B s G H Q I h;exact wpAny_BinOp (EF n k I h fun v u t x y H2 e c m q=>f B t G H2 x y v u Q e c m q)
theorem Gj (o:Kg X (unaryOp N) r) (n:PE X a ta):PE X (.UnaryOp N a O) (Ld r ta):=by intro B s G H Q I h;exact UnaryOp_ (cK (n B s G H _ I h) fun v f z=>by obtain⟨x,U,e,k,q⟩:=z;exact o B f G U x v Q e k q)
theorem H_ {f:Value->Value->Sem Value}{C:Int->Int->Prop}{g:Int->Int->Int}
  (rule:∀(i j:Int) (t u:Tok) (s:Shared) (Q:VP) (E:VP),C i j->Q (.int (g i j) s.toks) { s with toks:=s.toks+1 }->wpAny (model X.prog X.w) X.A (f (.int i t) (.int j u)) Q E s) :
  io X f (rI C fun i j=>.int (g i j)):=by
 intro B s G H x y v u Q I r a h;obtain⟨i,j,rfl,rfl,c,q⟩:=h;obtain⟨t,rfl⟩:=r;obtain⟨e,rfl⟩:=a;exact rule i j t e s _ _ c ⟨.int (g i j),H,I.tok _,⟨_,rfl⟩,q⟩
theorem GB {f:Value->Value->Sem Value}{g:Int->Int->Int}
  (rule:∀(i j:Int) (t u:Tok) (s:Shared) (Q:VP) (E:VP),Q (.int (g i j) s.toks) { s with toks:=s.toks+1 }->wpAny (model X.prog X.w) X.A (f (.int i t) (.int j u)) Q E s) :
  io X f (AY fun i j=>.int (g i j)):=by
 intro B s G H x y v u Q I r a h;obtain⟨i,j,rfl,rfl,q⟩:=h;obtain⟨t,rfl⟩:=r;obtain⟨e,rfl⟩:=a;exact rule i j t e s _ _ ⟨.int (g i j),H,I.tok _,⟨_,rfl⟩,q⟩
theorem Bk {f:Value->Value->Sem Value}{g:Int->Int->Bool}
  (rule:∀(i j:Int) (t u:Tok) (s:Shared) (Q:VP) (E:VP),Q (.bool (g i j)) s->wpAny (model X.prog X.w) X.A (f (.int i t) (.int j u)) Q E s) :
  io X f (AY fun i j=>.bl (g i j)):=by
 intro B s G H x y v u Q I r a h;obtain⟨i,j,rfl,rfl,q⟩:=h;obtain⟨t,rfl⟩:=r;obtain⟨e,rfl⟩:=a;exact rule i j t e s _ _ ⟨.bl (g i j),H,I,rfl,q⟩
noncomputable def Kn (i j:Int):Prop:=0≤j/\j≤1000000/\i.natAbs < 2 ^ 64
noncomputable def L4 (i j:Int):Prop:=(-(2 ^ 64) < i/\i < 2 ^ 64)\/(-(2 ^ 64) < j/\j < 2 ^ 64)
theorem DJ:io X (binaryOp .Add) (AY fun i j=>.int (i+j)):=GB fun _ _ _ _ _ _ _ q=>add_int q
theorem DC:io X (binaryOp .Sub) (AY fun i j=>.int (i-j)):=GB fun _ _ _ _ _ _ _ q=>sub_int q
theorem DG:io X (binaryOp .Mod) (rI (fun _ j=>0 < j) fun i j=>.int (i % j)):=H_ fun i j _ _ _ _ _ h q=>by have J:(0:Int) < j:=h;exact mod_int' (by lia) (by rw [Int.fmod_eq_emod_of_nonneg i (by lia)];exact q)
theorem DF:io X (binaryOp .Pow) (rI Kn fun i j=>.int (i ^ j.toNat)):=H_ fun _ _ _ _ _ _ _ h q=>pow_int_small h.1 h.2.1 h.2.2 q
theorem Lb {f:Value->Sem Value}{g:Int->Int}
  (rule:∀(i:Int) (t:Tok) (s:Shared) (Q:VP) (E:VP),Q (.int (g i) s.toks) { s with toks:=s.toks+1 }->wpAny (model X.prog X.w) X.A (f (.int i t)) Q E s) :
  Kg X f (rU fun i=>.int (g i)):=by
 intro B s G H x v Q I r h;obtain⟨i,rfl,q⟩:=h;obtain⟨t,rfl⟩:=r;exact rule i t s _ _ ⟨.int (g i),H,I.tok _,⟨_,rfl⟩,q⟩
theorem CW:Kg X (unaryOp .USub) (rU fun i=>.int (-i)):=Lb fun _ _ _ _ _ q=>neg_int q
end
noncomputable def Ga:V->V->Bool
 | .non,.non=>true | .non,.int _=>true | .int _,.non=>true | .non,.bl _=>true | .bl _,.non=>true | .non,.str _=>true | .str _,.non=>true
 | .int _,.int _=>true | .bl _,.bl _=>true | .str _,.str _=>true | .byt _,.byt _=>true
 | .int _,.str _=>true | .str _,.int _=>true | .bl _,.str _=>true | .str _,.bl _=>true
 | _,_=>false
noncomputable def Lo:R2:=fun x y H Q=>Ga x y=true/\Q (.bl (decide (x=y))) H
noncomputable def Ln:R2:=fun x y H Q=>Ga x y=true/\Q (.bl (!decide (x=y))) H
theorem wf {i j:Int}:decide (V.int i=V.int j)=(i == j):=by rw [mD];simp
theorem zT:decide (V.bl i=V.bl N)=(i == N):=by rw [mD];simp
theorem we:decide (V.str i=V.str N)=(i == N):=by rw [mD];simp
theorem wg:decide (V.byt i=V.byt N)=(i.toList == N.toList):=by rw [mD];cases i;cases N;simp
section
variable {X:Cx}{a b c:Expr}{ta tb tc:TE}{O:Pos}
theorem a9 (I:Inv X B G H s) (q:Q (.bl k) H) (e:k=N):EP X B G Q (.bool N) s:=by subst e;exact⟨.bl k,H,I,rfl,q⟩
theorem y2:io X (compareOp .Eq) Lo:=by
 intro B s G H x y v u Q I n r h;obtain⟨e,q⟩:=h;cases x with
 | non=>
  cases n;cases y with
  | non=>cases r;exact PySem.EqNone.eq_none_none (a9 I q (by simp))
  | bl j=>cases r;exact PySem.EqNone.eq_none_bool (a9 I q (by simp))
  | int j=>obtain⟨a,rfl⟩:=r;exact PySem.EqNone.eq_none_int (a9 I q (by simp))
  | str j=>obtain⟨a,rfl⟩:=r;exact PySem.EqNone.eq_none_str (a9 I q (by simp))
  | _=>exact absurd (show false=true from e) bS
 | bl i=>
  cases n;cases y with
  | non=>cases r;exact PySem.EqNone.eq_bool_none (a9 I q (by simp))
  | bl j=>cases r;exact eq_bool (a9 I q zT)
  | str j=>obtain⟨a,rfl⟩:=r;exact PySem.EqMixed.eq_bool_str (a9 I q (by simp))
  | _=>exact absurd (show false=true from e) bS
 | int i=>
  obtain⟨t,rfl⟩:=n;cases y with
  | non=>cases r;exact PySem.EqNone.eq_int_none (a9 I q (by simp))
  | int j=>obtain⟨a,rfl⟩:=r;exact eq_int (a9 I q wf)
  | str j=>obtain⟨a,rfl⟩:=r;exact PySem.EqMixed.eq_int_str (a9 I q (by simp))
  | _=>exact absurd (show false=true from e) bS
 | str i=>
  obtain⟨t,rfl⟩:=n;cases y with
  | non=>cases r;exact PySem.EqNone.eq_str_none (a9 I q (by simp))
  | bl j=>cases r;exact PySem.EqMixed.eq_str_bool (a9 I q (by simp))
  | int j=>obtain⟨a,rfl⟩:=r;exact PySem.EqMixed.eq_str_int (a9 I q (by simp))
  | str j=>obtain⟨a,rfl⟩:=r;exact eq_str (a9 I q we)
  | _=>exact absurd (show false=true from e) bS
 | byt i=>
  obtain⟨t,rfl⟩:=n;cases y with
  | byt j=>obtain⟨a,rfl⟩:=r;exact PySem.W.eq_bytes (a9 I q wg)
  | _=>exact absurd (show false=true from e) bS
 | _=>cases y <;> exact absurd (show false=true from e) bS
theorem y0:io X (compareOp .NotEq) Ln:=by
 intro B s G H x y v u Q I n r h;obtain⟨e,q⟩:=h;cases x with
 | non=>
  cases n;cases y with
  | non=>cases r;exact PySem.EqNone.ne_none_none (a9 I q (by simp))
  | bl j=>cases r;exact PySem.EqNone.ne_none_bool (a9 I q (by simp))
  | int j=>obtain⟨a,rfl⟩:=r;exact PySem.EqNone.ne_none_int (a9 I q (by simp))
  | str j=>obtain⟨a,rfl⟩:=r;exact PySem.EqNone.ne_none_str (a9 I q (by simp))
  | _=>exact absurd (show false=true from e) bS
 | bl i=>
  cases n;cases y with
  | non=>cases r;exact PySem.EqNone.ne_bool_none (a9 I q (by simp))
  | bl j=>cases r;exact ne_bool (a9 I q (congrArg not zT))
  | str j=>obtain⟨a,rfl⟩:=r;exact PySem.EqMixed.ne_bool_str (a9 I q (by simp))
  | _=>exact absurd (show false=true from e) bS
 | int i=>
  obtain⟨t,rfl⟩:=n;cases y with
  | non=>cases r;exact PySem.EqNone.ne_int_none (a9 I q (by simp))
  | int j=>obtain⟨a,rfl⟩:=r;exact ne_int (a9 I q (congrArg not wf))
  | str j=>obtain⟨a,rfl⟩:=r;exact PySem.EqMixed.ne_int_str (a9 I q (by simp))
  | _=>exact absurd (show false=true from e) bS
 | str i=>
  obtain⟨t,rfl⟩:=n;cases y with
  | non=>cases r;exact PySem.EqNone.ne_str_none (a9 I q (by simp))
  | bl j=>cases r;exact PySem.EqMixed.ne_str_bool (a9 I q (by simp))
  | int j=>obtain⟨a,rfl⟩:=r;exact PySem.EqMixed.ne_str_int (a9 I q (by simp))
  | str j=>obtain⟨a,rfl⟩:=r;exact ne_str (a9 I q (congrArg not we))
  | _=>exact absurd (show false=true from e) bS
 | byt i=>
  obtain⟨t,rfl⟩:=n;cases y with
  | byt j=>obtain⟨a,rfl⟩:=r;exact PySem.W.ne_bytes (a9 I q (congrArg not wg))
  | _=>exact absurd (show false=true from e) bS
 | _=>cases y <;> exact absurd (show false=true from e) bS
theorem Go:io X (compareOp .Lt) (AY fun i j=>.bl (decide (i < j))):=Bk fun _ _ _ _ _ _ _ q=>lt_int q
theorem Gp:io X (compareOp .LtE) (AY fun i j=>.bl (decide (i≤j))):=Bk fun _ _ _ _ _ _ _ q=>le_int q
theorem Gq:io X (compareOp .Gt) (AY fun i j=>.bl (decide (j < i))):=Bk fun _ _ _ _ _ _ _ q=>gt_int q
theorem Gr:io X (compareOp .GtE) (AY fun i j=>.bl (decide (j≤i))):=Bk fun _ _ _ _ _ _ _ q=>ge_int q
theorem wW:io X (compareOp .In) (fun x y H Q=>∃i j,x=.str i/\y=.str j/\Q (.bl (!(Builtin.Str.occurrences j i 0 j.length 1).isEmpty)) H):=by intro B s G H x y v u Q I r a h;obtain⟨i,j,rfl,rfl,q⟩:=h;obtain⟨t,rfl⟩:=r;obtain⟨e,rfl⟩:=a;exact in_str (a9 I q rfl)
theorem DH:io X (compareOp .Is) (fun x y H Q=>y=.non/\Q (.bl (decide (x=.non))) H):=by
 intro B s G H x y v u Q I r a h;obtain⟨rfl,q⟩:=h;cases a;refine is_none_gen (a9 I q ?_);cases x <;> first
  | (cases r;rfl)
  | (obtain⟨t,rfl⟩:=r;rfl)
theorem Bg:io X (compareOp .IsNot) (fun x y H Q=>y=.non/\Q (.bl (!decide (x=.non))) H):=by
 intro B s G H x y v u Q I r a h;obtain⟨rfl,q⟩:=h;cases a;refine isnot_none_gen (a9 I q ?_);cases x <;> first
  | (cases r;rfl)
  | (obtain⟨t,rfl⟩:=r;rfl)
theorem DR (b:Expr) (h:N≠.In:=by decide) (h2:N≠.NotIn:=by decide):behindInMarks N b=false:=by
 have e:(N == CmpOp.In)=false:=by cases N <;> first | rfl | exact absurd rfl h
 have x:(N == CmpOp.NotIn)=false:=by cases N <;> first | rfl | exact absurd rfl h2
 cases b <;> simp [behindInMarks,e,x]
theorem vG {o:CmpOp}{r:R2} (f:io X (compareOp o) r) (n:PE X a ta) (k:PE X b tb) (m:behindInMarks o b=false):PE X (.Compare a [o] [b] O) (C3 r ta tb):=by intro B s G H Q I h;exact wpAny_Compare1 (EF n k I h fun v u p x y H2 e c t q=>f B p G H2 x y v u Q e c t q) m
noncomputable def yk (t:TE):TT:=fun G H Q=>t G H fun x H'=>∃k,x=.bl k/\Q k H'
theorem vx (o:io X (compareOp N) r) (p:PE X a ta) (q:PE X b tb) (d:behindInMarks N b=false):PT X (.Compare a [N] [b] O) (yk (C3 r ta tb)):=by
 intro B s G H Q I h;refine wpAny_isTrue_Compare1 (cK (p B s G H _ I h) fun v F ⟨x,U,f,j,w⟩=>cK (q B F G U _ f w) fun u K ⟨y,H2,m,l,g⟩=>
  cK (o B K G H2 x y v u _ m j l g) fun c P ⟨z,n,t,S,k,e,i⟩=>?_) d
 subst e;cases S;exact jd ⟨n,t,i⟩
noncomputable def uk (r e:R2) (ta tb tc:TE):TE:=fun G H Q=>ta G H fun x U=>tb G U fun y H2=>r x y H2 fun z h=>∃k,z=.bl k /\
 (if k=true then tc G h fun w a=>e y w a Q else Q (.bl false) h)
theorem yY (F:io X (compareOp op) r) (o:io X (compareOp N) r') (i:PE X a ta) (j:PE X b tb) (l:PE X c tc)
  (S:lastMarks [op,N] [b,c]=false:=by with_unfolding_all rfl):PE X (.Compare a [op,N] [b,c] O) (uk r r' ta tb tc):=by
 intro B s G H Q I h;refine Compare_chain (cK (i B s G H _ I h) fun v J ⟨x,U,p,C,K⟩=>chain_link (cK (j B J G U _ p K) fun u L ⟨y,H2,w,m,P⟩=>
  cK (F B L G H2 x y v u _ w C m P) fun d M ⟨z,n,f,D,k,e,q⟩=>?_)) S
 subst e;cases D;refine jd ?_;cases k with
 | false=>exact ite_ff ⟨.bl false,n,f,rfl,q⟩
 | true=>exact ite_tt (chain_last (cK (l B M G n _ f q) fun T R ⟨V,t,g,E,A⟩=>o B R G t y V u T Q g m E A))
theorem yF (C:io X (compareOp op) r) (o:io X (compareOp N) r') (F:PE X a ta) (K:PE X b tb) (P:PE X c tc)
  (A:lastMarks [op,N] [b,c]=false:=by with_unfolding_all rfl):PT X (.Compare a [op,N] [b,c] O) (yk (uk r r' ta tb tc)):=by
 intro B s G H Q I h;refine isTrue_chain (cK (F B s G H _ I h) fun v Z ⟨x,U,w,T,J⟩=>test_link (cK (K B Z G U _ w J) fun u s2 ⟨y,H2,g,m,L⟩=>
  cK (C B s2 G H2 x y v u _ g T m L) fun d s3 ⟨z,n,f,V,k,e,q⟩=>?_)) A
 subst e;cases V;refine jd ?_;cases k with
 | false=>obtain⟨k',l,E⟩:=q;cases l;exact ite_ff ⟨n,f,E⟩
 | true=>refine ite_tt (test_last (cK (P B s3 G n _ f q) fun w' s4 ⟨z',t,i,W,M⟩=>cK (o B s4 G t y z' u w' _ i m W M) fun d' s5 D=>?_));obtain⟨z2,p,j,Y,k2,S,R⟩:=D;subst S;cases Y;exact jd ⟨p,j,R⟩
noncomputable def EJ (K:FG) (x:V) (H:Hp) (k:Bool):Prop:=
 match x with
 | .non=>k=false
 | .bl b=>k=b
 | .int i=>k=(i != 0)
 | .str y=>y.length≤sizeLine/\k=((y.length:Int) != 0)
 | .byt y=>y.size≤sizeLine/\k=((y.size:Int) != 0)
 | .ref p=>(∃xs,gQ K H p xs/\k=!xs.isEmpty)\/(∃xs,kT K H p xs/\k=!xs.isEmpty)\/∃j,H p=some (.dK j)/\k=!j.isEmpty
 | _=>False
theorem uG (r:KV j N):(!N.isEmpty)=!j.isEmpty:=by cases r <;> rfl
theorem nI (r:aL xs N):(!N.toArray.isEmpty)=!xs.isEmpty:=by cases r <;> simp
theorem jk:(sizeLine:Nat) < 2 ^ 63:=by rw [jD];decide
theorem C0:Kh X (fun x H Q=>∃k,EJ X.K x H k/\Q k H):=by
 intro B s G H x v Q I n h;obtain⟨k,e,q⟩:=h;have g:=jk;have o:sizeLine=16777216:=jD;cases x with
 | non=>cases n;have a:k=false:=e;subst a;exact truthy_none ⟨H,I,q⟩
 | bl b=>cases n;have a:k=b:=e;subst a;exact jd ⟨H,I,q⟩
 | int i=>obtain⟨t,rfl⟩:=n;have a:k=(i != 0):=e;subst a;exact PySem.P.truthy_int ⟨H,I,q⟩
 | str y=>obtain⟨t,rfl⟩:=n;obtain⟨u,a⟩:y.length≤sizeLine/\k=((y.length:Int) != 0):=e;subst a;exact PySem.P.truthy_str (by lia) ⟨H,I.tok _,q⟩
 | byt y=>obtain⟨t,rfl⟩:=n;obtain⟨u,a⟩:y.size≤sizeLine/\k=((y.size:Int) != 0):=e;subst a;exact PySem.W.truthy_bytes (by lia) ⟨H,I.tok _,q⟩
 | ref p=>
  cases n;have a:(∃xs,gQ X.K H p xs/\k=!xs.isEmpty)\/(∃xs,kT X.K H p xs/\k=!xs.isEmpty)\/∃j,H p=some (.dK j)/\k=!j.isEmpty:=e;rcases a with ⟨xs,f,a⟩ | ⟨xs,f,a⟩ | ⟨j,f,a⟩
  .subst a;obtain⟨d,r,w,z⟩:=I.list f;have l:=r.length;exact wpAny_truthy_list w.isList (by simp only [List.size_toArray];lia) ⟨H,I.tok _,by rw [nI r];exact q⟩
  .subst a;obtain⟨d,r,w,z⟩:=I.tuple f;have l:=r.length;exact truthy_tuple w (by simp only [List.size_toArray];lia) ⟨H,I.tok _,by rw [nI r];exact q⟩
  .subst a;obtain⟨z,S,c,r,m⟩:j.length≤sizeLine/\(p == sysModules)=false/\∃c,KV j c/\s.heap.DictOf (bN X.prog X.w) p c:=I.hok p _ f;have l:j.length=c.length:=Paired.length r;exact wpAny_truthy_dict S m (by lia) ⟨H,I.tok _,by rw [uG r];exact q⟩
 | _=>exact (show False from e).elim
theorem yE (n:PE X a ta) (f:∀w,isTrue a X.env w=(do let v <- w;standAt a.pos;holding [v] (truthy v))) :
  PT X a (fun G H Q=>ta G H fun x H'=>∃k,EJ X.K x H' k/\Q k H'):=by
 intro B s G H Q I h;exact isTrue_plain (cK (n B s G H _ I h) fun v b z=>by obtain⟨x,U,e,r,q⟩:=z;exact C0 B b G U x v Q e r q) (f _)
theorem ux:io X (binaryOp .Add) (fun x y H Q=>∃i j,x=.str i/\y=.str j/\i.length+j.length≤sizeLine/\Q (.str (i++j)) H):=by intro B s G H x y v u Q I r a h;obtain⟨i,j,rfl,rfl,z,q⟩:=h;obtain⟨t,rfl⟩:=r;obtain⟨e,rfl⟩:=a;exact add_str (fun e tk=>⟨.str (i++j),H,I.tok _,⟨_,rfl⟩,q⟩) z
theorem vals1 (r:aL [x] Y):∃u,Y=[u]/\RelV x u:=by
 cases r with
 | cons h a=>cases a;exact⟨_,rfl,h⟩
theorem vals2 (r:aL [x,y] Y):∃u w,Y=[u,w]/\RelV x u/\RelV y w:=by
 cases r with
 | cons h a=>
  cases a with
  | cons e s=>cases s;exact⟨_,_,rfl,h,e⟩
theorem z4:c6 X (.builtin "abs") (fun xs H Q=>∃i,xs=[.int i]/\Q (.int (if i < 0 then -i else i)) H):=by intro B s G H xs Y Q I r h;obtain⟨i,rfl,q⟩:=h;obtain⟨u,rfl,t,rfl⟩:=vals1 r;exact call_abs_int fun u tk=>⟨.int (if i < 0 then -i else i),H,I.tok _,⟨_,rfl⟩,q⟩
theorem pA:c6 X (.type "int") (fun xs H Q=>(∃i,xs=[.int i]/\Q (.int i) H)\/∃k,xs=[.bl k]/\Q (.int (if k then 1 else 0)) H):=by
 intro B s G H xs Y Q I r h;rcases h with ⟨i,rfl,q⟩ | ⟨k,rfl,q⟩
 .obtain⟨u,rfl,t,rfl⟩:=vals1 r;exact call_int_int ⟨.int i,H,I,⟨_,rfl⟩,q⟩
 .obtain⟨u,rfl,x⟩:=vals1 r;cases x;exact call_int_bool ⟨.int (if k then 1 else 0),H,I.tok _,⟨_,rfl⟩,q⟩
end
structure ObjM (h:Heap) (x dx C:Addr) (mA:SV):Prop where
 obj:h.get? x=some (PySem.W.instObj C dx)
 ns:h.Ns1 dx mA
 ne:dx≠x
theorem w9 (n:h.Ns1 dx mA):∃d,h.get? dx=some d/\∀name,PySem.W.lookIn name d=some (mA name):=by
 obtain⟨o,es,p,f,hd,s,_,m⟩:=n;refine⟨o,f,fun name=>?_⟩;have e:=m name;unfold nsFind findBy at e;rw [<- Array.find?_toList] at e;unfold PySem.W.lookIn;rw [hd];dsimp only;split
 .rename_i y q;rw [q] at e;exact congrArg some e
 .rename_i q;rw [q] at e;have a:es.toList.any (·.refKey)=false:=by
   rw [List.any_eq_false];intro y b;obtain⟨z,t,k⟩:=s y (Array.mem_toList_iff.mp b);simp [DictEntry.refKey,k]
  have x:¬es.toList.any (·.refKey)=true:=by rw [a];exact bS
  rw [if_neg x];exact congrArg some e
variable {C:Addr}
theorem ObjM.look (I:ObjM h x dx C mA):∃o,PySem.W.InstAt h x (PySem.W.instObj C dx) C (some o)/\∀name,PySem.W.lookIn name o=some (mA name):=
 let ⟨o,a,l⟩:=w9 I.ns
 ⟨o,⟨I.obj,rfl,rfl,a⟩,l⟩
section
variable {prog:Program}{w:World}{A:Around}{E:VP}{s:Shared}{K:FG}{x dx C f:Addr}{mA:SV}{name:Str}{v:Value}
theorem BC (X:K.In s.heap) (I:ObjM s.heap x dx C mA) (g:PySem.W.plainGet K C name=true) (n:PySem.W.hasDictIn K C=true)
  (e:PySem.W.findIn K (.ref C) name=some none) (k:mA name=some v) (a:PySem.W.handedIn v=true) (h:Q v { s with toks:=s.toks+1 }) :
  wpAny (model prog w) A (getAttr (.ref x) name N) Q E s:=by
 obtain⟨o,J,l⟩:=I.look;exact PySem.W.get_value X J (p' g).1 (PySem.W.findObj_own n e rfl (by rw [l,k])) a h
theorem zH (X:K.In s.heap) (I:ObjM s.heap x dx C mA) (g:PySem.W.plainGet K C name=true)
  (a:PySem.W.findIn K (.ref C) name=some (some (.ref f))) (t:PySem.W.isFn K (.ref f)=true) (v:mA name=none) (h:Q (.ref f,[.ref x]) s) :
  wpAny (model prog w) A (getMethod (.ref x) name N) Q E s:=by
 obtain⟨o,J,l⟩:=I.look;exact PySem.W.method_fn X J (p' g).1 (p' g).2 a (kl.mp t) (by show (PySem.W.lookIn name o).map (·.isSome)=some false;rw [l,v];rfl) h
theorem AR (X:K.In s.heap) (I:ObjM s.heap x dx C mA)
  (q:PySem.W.findIn K (.ref C) "__setattr__"=some (some (.builtin "object.__setattr__"))) (t:PySem.W.plainOver K C=true) (u:PySem.W.takerIn K C name=some none) (m:PySem.W.hasDictIn K C=true)
  (hw:PySem.Within mA N) (z:N.length≤sizeLine)
  (h:∀h',ObjM h' x dx C (fun y=>if y=name then some v else mA y)->Heap.SameBut dx s.heap h'->Q () { s with heap:=h',toks:=s.toks+2 }) :
  wpAny (model prog w) A (setAttr (.ref x) name v) Q E s:=by
 obtain⟨H,J,l⟩:=I.look;refine PySem.W.set_plain X J q (PySem.W.osa_open (s:={ s with toks:=s.toks+1 }) (r:=none) X J t u fun b=>?_);obtain⟨i,f,d⟩:=PySem.W.any_some m;have g:s.heap.get? x=some ⟨.ref C,some dx,.plain,#[]⟩:=I.obj;refine wpAny_bind (wpAny_pure (wpAny_bind (wpAny_bind (wpAny_loadPart g (wpAny_bind (PySem.W.Looks.here (s:={ s with toks:=s.toks+1 }) (PySem.W.looks_clsIn X f) ?_))))));rw [d];refine wpAny_pure (a:=some dx) (wpAny_bind (wpAny_pure (wpAny_bind ?_)));refine wpAny_nsSet1 (s:={ s with toks:=s.toks+1 }) I.ns fun h' n e=>?_;obtain⟨j,k,p,o,D,c⟩:=n.count (PySem.Within.cons name v hw);refine wpAny_bind (wpAny_lookBehind o (by rw [D];exact pastItsLine_dict (aM c (by rw [bc];lia))) ?_);exact wpAny_pure (h _ ⟨(e.2 _ (Ne.symm I.ne)).trans I.obj,n,I.ne⟩ e)
theorem zd (X:K.In s.heap) (m:PySem.W.makesIn K C=true)
  (q:PySem.W.findIn K (.ref C) "__init__"=some (some (.ref f))) (x:PySem.W.typeIn K (.ref f)=some (.type "function"))
  (h:codeAny (model prog w) (A.under (.builtin "type.__call__" ⟨.ref C::N,kw⟩)) (.call (.ref f) ⟨.ref (s.heap.objs.size+1)::N,kw⟩) (PySem.W.InitBack (s.heap.objs.size+1) R)
   { s with heap:=(s.heap.push PySem.W.emptyDict).push (PySem.W.instObj C s.heap.objs.size) }) :
  codeAny (model prog w) A (.call (.ref C) ⟨N,kw⟩) R s:=by
 obtain⟨a,g,d,t,os⟩:=s;exact PySem.W.make_core (PySem.W.makes_of X m) (PySem.W.looks_findIn X q) (fun e=>PySem.W.bind_fn X e x) (.inl rfl) h
end
noncomputable def g9 (f:Str) (v:V):List (Str×V)->List (Str×V)
 | []=>[(f,v)]
 | (g,x)::r=>if g=f then (g,v)::r else (g,x)::g9 f v r
theorem lM (f g:Str) (v:V):∀fs:List (Str×V),(g9 f v fs).lookup g=if g=f then some v else fs.lookup g
 | []=>by
  show List.lookup g [(f,v)]=_;by_cases h:g=f
  .have b:(g == f)=true:=kl.mpr h;simp only [List.lookup,b,if_pos h]
  .have b:(g == f)=false:=j4.mpr h;simp only [List.lookup,b,if_neg h]
 | (k,x)::r=>by
  have i:=lM f g v r;rw [show g9 f v ((k,x)::r)=(if k=f then (k,v)::r else (k,x)::g9 f v r) from rfl];by_cases a:k=f
  .rw [if_pos a];by_cases h:g=k
   .have b:(g == k)=true:=kl.mpr h;simp only [List.lookup,b,if_pos (h.trans a)]
   .have b:(g == k)=false:=j4.mpr h;simp only [List.lookup,b,if_neg (fun e:g=f=>h (e.trans a.symm))]
  .rw [if_neg a];by_cases h:g=k
   .have b:(g == k)=true:=kl.mpr h;simp only [List.lookup,b,if_neg (fun e:g=f=>a (h.symm.trans e))]
   .have b:(g == k)=false:=j4.mpr h;simp only [List.lookup,b];exact i
theorem li (f:Str) (v:V):∀fs:List (Str×V),f ∈ (g9 f v fs).map (·.1)/\∀g,g ∈ fs.map (·.1)->g ∈ (g9 f v fs).map (·.1)
 | []=>⟨by simp [g9],fun g h=>by simp at h⟩
 | (k,x)::r=>by
  obtain⟨i,s⟩:=li f v r;rw [show g9 f v ((k,x)::r)=(if k=f then (k,v)::r else (k,x)::g9 f v r) from rfl];by_cases a:k=f
  .rw [if_pos a];subst a;exact⟨by simp,fun g h=>by simpa using h⟩
  .rw [if_neg a];refine⟨?_,fun g h=>?_⟩
   .rw [List.map_cons];exact aY _ i
   .rw [List.map_cons] at h ⊢;rcases bj.mp h with e | e
    .exact bj.mpr (.inl e)
    .exact aY _ (s g e)
theorem lN (f:Str) (v:V):∀fs:List (Str×V),(g9 f v fs).length≤fs.length+1
 | []=>by simp [g9]
 | (k,x)::r=>by
  have i:=lN f v r;rw [show g9 f v ((k,x)::r)=(if k=f then (k,v)::r else (k,x)::g9 f v r) from rfl];by_cases h:k=f
  .rw [if_pos h,bc,bc];lia
  .rw [if_neg h,bc,bc];lia
theorem i7.some_of {v:V}{o:OV} (r:i7 (some v) o):∃u,o=some u/\RelV v u:=by
 cases o with
 | none=>exact (show False from r).elim
 | some u=>exact⟨u,rfl,r⟩
theorem i7.none_of {o:OV} (r:i7 none o):o=none:=by
 cases o with
 | none=>rfl
 | some u=>exact (show False from r).elim
variable {v:V}
theorem xn (r:RelV v u):PySem.W.handedIn u=true:=by
 cases v with
 | non=>cases (show u=Value.none from r);rfl
 | bl b=>cases (show u=Value.bool b from r);rfl
 | int i=>obtain⟨t,e⟩:=(show ∃t,u=Value.int i t from r);cases e;rfl
 | str x=>obtain⟨t,e⟩:=(show ∃t,u=Value.str x t from r);cases e;rfl
 | byt b=>obtain⟨t,e⟩:=(show ∃t,u=Value.bytes b t from r);cases e;rfl
 | flt b=>obtain⟨t,e⟩:=(show ∃t,u=Value.float b t from r);cases e;rfl
 | ref a=>cases (show u=Value.ref a from r);rfl
 | ty n=>cases (show u=Value.type n from r);rfl
section
variable {P:Program}{w:World}{H H':Hp}{h h':Heap}{a C dx:Addr}{fs fs':List (Str×V)}
theorem mN (o:jM P w H h) (e:H a=some (.ins C dx fs)):∃mA,ObjM h a dx C mA/\(∀f,i7 (fs.lookup f) (mA f))/\PySem.Within mA (fs.map (·.1))/\fs.length≤1000/\H dx=some (.own a):=by obtain⟨d,z,x,b,mA,n,r,q⟩:=(show ce P w H h a (.ins C dx fs) from o a _ e);exact⟨mA,⟨b,n,x⟩,r,q,z,d⟩
end
structure Cls (K:FG) (C:Addr):Prop where
 pg:PySem.W.plainGet K C Str.empty=true
 hd:PySem.W.hasDictIn K C=true
 po:PySem.W.plainOver K C=true
 sa:PySem.W.findIn K (.ref C) "__setattr__"=some (some (.builtin "object.__setattr__"))
theorem Cls.get (c:Cls K C) (f:Str):PySem.W.plainGet K C f=true:=c.pg
noncomputable def ki (K:FG) (C:Addr) (f:Str):Prop:=PySem.W.findIn K (.ref C) f=some none
theorem ki.taker (n:ki K C f):PySem.W.takerIn K C f=some none:=by unfold PySem.W.takerIn;rw [show PySem.W.findIn K (.ref C) f=some none from n];rfl
structure Con (K:FG) (C:Addr) (f:Str) (v:V) (u:Value):Prop where
 at_:PySem.W.findIn K (.ref C) f=some (some u)
 rel:RelV v u
 get:PySem.W.specialIn K u "__get__"=some none
 cp:PySem.W.copiedNames.contains f=false
structure Meth (K:FG) (C:Addr) (m:Str) (f:Addr):Prop where
 at_:PySem.W.findIn K (.ref C) m=some (some (.ref f))
 fn:PySem.W.isFn K (.ref f)=true
 kp:PySem.W.keepIn K (.ref f)=true
section
variable {X:Cx}{B:PN}{G:St}{H:Hp}{s:Shared}{a C dx:Addr}{fs:List (Str×V)}{f:Str}{v:V}{A:Around}{E:VP}
theorem uJ {b:Bool}{Q:VP} (I:Inv X B G H s) (e:H a=some (.ins C dx fs)) (c:Cls X.K C) (n:ki X.K C f) (l:fs.lookup f=some v)
  (h:∀u z,Inv X B G H z->RelV v u->Q u z):wpAny (model X.prog X.w) A (getAttr (.ref a) f b) Q E s:=by
 obtain⟨mA,O,r,_,_,_⟩:=mN I.hok e;obtain⟨u,k,x⟩:=i7.some_of (v:=v) (o:=mA f) (by rw [<- l];exact r f);exact BC I.kIn O (c.get f) c.hd n k (xn x) (h u _ (I.tok _) x)
theorem nM {m:Str}{g:Addr}{p:Sem Bool}{Q:Value×LV->Shared->Prop} (I:Inv X B G H s) (e:H a=some (.ins C dx fs)) (c:Cls X.K C) (k:Meth X.K C m g) (l:fs.lookup m=none)
  (h:Q (.ref g,[.ref a]) s):wpAny (model X.prog X.w) A (getMethod (.ref a) m p) Q E s:=by
 obtain⟨mA,O,r,_,_,_⟩:=mN I.hok e;have n:mA m=none:=i7.none_of (by rw [<- l];exact r m);exact zH I.kIn O (c.get m) k.at_ k.fn n h
theorem ur (I:Inv X B G H s) (e:H a=some (.ins C dx fs)) (c:Cls X.K C) (n:ki X.K C f) (S:fs.length < 1000) (j:RelV y u)
  (h:∀z,Inv X B G (cc H a (.ins C dx (g9 f y fs))) z->Q () z):wpAny (model X.prog X.w) A (setAttr (.ref a) f u) Q E s:=by
 obtain⟨mA,O,r,w,_,t⟩:=mN I.hok e;have i:(fs.map (·.1)).length≤sizeLine:=by rw [b8,jD];lia
 refine AR I.kIn O c.sa c.po n.taker c.hd w i fun h' m l=>h _ ?_;have hd:∃o,h'.get? dx=some o:=let ⟨o,_,_,p,_⟩:=m.ns;⟨o,p⟩
 refine I.write (x:=a) (e:=dx) (by rw [e];exact True.intro) (.inr t) (fun b q v k=>(l.2 b v).trans k) hd ?_;refine⟨by rw [am O.ne];exact t,?_,O.ne,m.obj,_,m.ns,fun g=>?_,fun g d=>?_⟩
 .have:=lN f y fs;lia
 .show i7 ((g9 f y fs).lookup g) (if g=f then some u else mA g);rw [lM];by_cases q:g=f
  .rw [if_pos q,if_pos q];exact j
  .rw [if_neg q,if_neg q];exact r g
 .by_cases q:g=f
  .rw [q];exact (li f y fs).1
  .refine (li f y fs).2 g (w g fun k=>d ?_);show (if g=f then some u else mA g)=none;rw [if_neg q];exact k
theorem Inv.made (I:Inv X B G H s):Inv X B G (cc (cc H s.heap.objs.size (.own (s.heap.objs.size+1))) (s.heap.objs.size+1) (.ins C s.heap.objs.size []))
  { s with heap:=(s.heap.push PySem.W.emptyDict).push (PySem.W.instObj C s.heap.objs.size) }:=by
 have h:(s.heap.push PySem.W.emptyDict).get? s.heap.objs.size=some PySem.W.emptyDict:=Heap.get?_push_size s.heap rfl;have k:((s.heap.push PySem.W.emptyDict).push (PySem.W.instObj C s.heap.objs.size)).get? (s.heap.objs.size+1)=some (PySem.W.instObj C s.heap.objs.size):=by have:=Heap.get?_push_size (s.heap.push PySem.W.emptyDict) (o:=PySem.W.instObj C s.heap.objs.size) rfl;rwa [Heap.size_push] at this
 have f:(s.heap.push PySem.W.emptyDict).Ns s.heap.objs.size (fun _=>none):=⟨PySem.W.emptyDict,#[],_,h,rfl,(fun e c=>absurd c (by simp)),fun _=>rfl⟩;have x:=I.laid (a:=s.heap.objs.size) (o:=.own (s.heap.objs.size+1)) (h':=s.heap.push PySem.W.emptyDict) (t':=s.toks) (fun b u q=>Heap.get?_push_of_some _ q) (Nat.le_refl _) ⟨_,h⟩;refine x.laid (a:=s.heap.objs.size+1) (o:=.ins C s.heap.objs.size []) (t':=s.toks) (fun b u q=>Heap.get?_push_of_some _ q) (Nat.le_of_eq (Heap.size_push _ _)) ?_;have n:s.heap.objs.size≠s.heap.objs.size+1:=bo (Nat.lt_succ_self _);refine⟨by rw [am n,aE],Nat.zero_le _,n,k,fun _=>none,(Heap.Ns1.of_empty f).at fun o q=>Heap.get?_push_of_some _ q,fun _=>True.intro,fun y m=>absurd rfl m⟩
theorem BX (b:attributeBase e f N (eval e N)=eval e N)
  (h:wpAny (model prog w) A (eval e N) (fun o x=>wpAny (model prog w) A (getAttr o f true) Q E x) E s):wpAny (model prog w) A (eval (.Attribute e f O) N) Q E s:=
 Attribute_any_ h (by rw [arm_eval_Attribute,b])
end
noncomputable def Jy (K:FG) (ta:TE) (f:Str):TE:=fun G H Q=>ta G H fun x U=>∃a C dx fs v,x=.ref a/\U a=some (.ins C dx fs)/\Cls K C/\ki K C f/\fs.lookup f=some v/\Q v U
noncomputable def JC (K:FG) (ta tv:TE) (f:Str):TS:=fun D G H=>tv G H fun y U=>ta G U fun x H2=>∃a C dx fs,x=.ref a/\H2 a=some (.ins C dx fs)/\Cls K C/\ki K C f/\fs.length < 1000 /\
 D.nx G (cc H2 a (.ins C dx (g9 f y fs)))
section
variable {X:Cx}{o e value:Expr}{f:Str}{O pos' tpos:Pos}{ta tv:TE}
theorem DA (t:PE X e ta) (r:attributeBase e f X.env (eval e X.env)=eval e X.env):PE X (.Attribute e f O) (Jy X.K ta f):=by intro B s G H Q I h;refine BX r (cK (t B s G H _ I h) fun u w z=>?_);obtain⟨x,U,k,d,a,C,dx,fs,v,ex,m,c,n,l,q⟩:=z;subst ex;obtain rfl:u=Value.ref a:=d;exact uJ k m c n l fun i g b p=>⟨v,U,b,p,q⟩
theorem Do (r:PE X o ta) (v:PE X value tv) (t:swapsWith value (some (.Attribute o f pos')) O.line X.env=pure false):PS X (.Assign [.Attribute o f pos'] value O) (JC X.K ta tv f):=by intro B s G H D I h;refine plainObj_wpAny_Assign_Attribute (cK (v B s G H _ I h) fun u i ⟨y,U,e,g,q⟩=>cK (r B i G U _ e q) fun p j z=>?_) t;obtain⟨x,H2,k,w,a,C,dx,fs,ex,m,c,n,l,d⟩:=z;subst ex;obtain rfl:p=Value.ref a:=w;exact ur k m c n l g fun S b=>⟨G,_,b,d⟩
end
section
variable {X:Cx}{B:PN}{G:St}{H:Hp}{s:Shared}{A:Around}{E:VP}{Q:VP}{c:Value}{b:Bool}
inductive TyOf (K:FG) (H:Hp):V->Value->Prop where
 | non:TyOf K H .non (.type "NoneType")
 | bl (x:Bool):TyOf K H (.bl x) (.type "bool")
 | int (i:Int):TyOf K H (.int i) (.type "int")
 | str (x:Str):TyOf K H (.str x) (.type "str")
 | flt (x:UInt64):TyOf K H (.flt x) (.type "float")
 | lst {a:Addr}{xs:List V} (e:H a=some (.lst xs)):TyOf K H (.ref a) (.type "list")
 | frz {a:Addr}{o:Obj}{xs:List V} (e:H a=some (.frz o (.lst xs))):TyOf K H (.ref a) (.type "list")
 | tup {a:Addr}{xs:List V} (e:H a=some (.tup xs)):TyOf K H (.ref a) (.type "tuple")
 | dK {a:Addr}{kvs:List (bz×V)} (e:H a=some (.dK kvs)):TyOf K H (.ref a) (.type "dict")
 | dT {a:Addr}{kvs:List (List bz×V)} (e:H a=some (.dT kvs)):TyOf K H (.ref a) (.type "dict")
 | ins {a C dx:Addr}{fs:List (Str×V)} (e:H a=some (.ins C dx fs)) (cl:Cls K C) (ha:PySem.W.findIn K (.ref C) "__class__"=some (some (.builtin "object.__class__")))
   (hn:PySem.W.specialIn K (.builtin "object.__class__") "__get__"=some (some (.builtin "getset_descriptor.__get__"))) (htk:PySem.W.takesIn K (.builtin "object.__class__")=some true)
   (hm:PySem.W.mroIn K C (.type "object")=some true):TyOf K H (.ref a) (.ref C)
theorem gw (I:Inv X B G H s) (r:RelV x u) (ty:TyOf X.K H x t) (e:PySem.W.kitOne X.K t c=some b) (h:∀tk,Q (.bool b) { s with toks:=tk }) :
  wpAny (model X.prog X.w) A (call (.builtin "isinstance") [u,c]) Q E s:=by
 cases ty with
 | non=>cases (show u=Value.none from r);exact eH PySem.W.kitx_none I.kIn True.intro e (fun z=>nomatch z) h
 | bl y=>cases (show u=Value.bool y from r);exact eH PySem.W.kitx_bool I.kIn True.intro e (fun z=>nomatch z) h
 | int i=>obtain⟨t,q⟩:=(show ∃t,u=Value.int i t from r);cases q;exact eH PySem.W.kitx_int I.kIn True.intro e (fun z=>nomatch z) h
 | str y=>obtain⟨t,q⟩:=(show ∃t,u=Value.str y t from r);cases q;exact eH PySem.W.kitx_str I.kIn True.intro e (fun z=>nomatch z) h
 | flt y=>obtain⟨t,q⟩:=(show ∃t,u=Value.float y t from r);cases q;exact eH PySem.W.kitx_float I.kIn True.intro e (fun z=>nomatch z) h
 | @lst a xs f=>cases (show u=Value.ref a from r);obtain⟨_,_,n,_,J⟩:=(show ce X.prog X.w H s.heap a (.lst xs) from I.hok a _ f);exact eH mU I.kIn ⟨_,J,rfl⟩ e (fun z=>nomatch z) h
 | @frz a S xs f=>cases (show u=Value.ref a from r);obtain⟨_,_,_,n,_,J⟩:=(show ce X.prog X.w H s.heap a (.frz S (.lst xs)) from I.hok a _ f);exact eH mU I.kIn ⟨_,J,rfl⟩ e (fun z=>nomatch z) h
 | @tup a xs f=>cases (show u=Value.ref a from r);obtain⟨_,_,_,p⟩:=(show ce X.prog X.w H s.heap a (.tup xs) from I.hok a _ f);obtain⟨o,J,h2,_⟩:=p;exact eH PySem.W.kitx_tuple I.kIn ⟨o,J,h2.1⟩ e (fun z=>nomatch z) h
 | @dK a j f=>cases (show u=Value.ref a from r);obtain⟨_,_,K,_,p⟩:=(show ce X.prog X.w H s.heap a (.dK j) from I.hok a _ f);obtain⟨o,es,v,J,h2,_⟩:=p;exact eH PySem.W.kitx_dict I.kIn ⟨o,J,h2.1⟩ e (fun z=>nomatch z) h
 | @dT a j f=>cases (show u=Value.ref a from r);obtain⟨_,_,xs,_,o,es,v,J,h2,_⟩:=(show ce X.prog X.w H s.heap a (.dT j) from I.hok a _ f);exact eH PySem.W.kitx_dict I.kIn ⟨o,J,h2.1⟩ e (fun z=>nomatch z) h
 | @ins a C dx fs f l d g m w=>cases (show u=Value.ref a from r);obtain⟨mA,O,_⟩:=mN I.hok f;obtain⟨F,k,_⟩:=O.look;exact eH (PySem.W.kitx_own (l.get _) l.hd d g m w) I.kIn k e (fun z=>nomatch z) h
end
structure Room (k:Nat) (A:Around):Prop where
 hd:A.handled=none
 dp:A.depth+3 * k+5 < recursionLimit
 un:A.units+16 * k+200 < cLine
variable {k:Nat}
theorem Room.deeper (r:Room (k+1) A) (e:Env):Room k (A.deeper e):=
 ⟨r.hd,by have:=r.dp;show A.depth+1+3 * k+5 < _;lia,by have:=r.un;show A.units+3+16 * k+200 < _;lia⟩
variable {kw:List (Str×Value)}
theorem uC:(A.under (.builtin "type.__call__" ⟨.ref C::Y,kw⟩)).depth=A.depth+1:=by first | rfl | simp [Around.under,Code.weight,Code.isCreation,Code.isGuard,Code.isCaller,Code.frames,Code.isFrame,guardIds]
theorem uB:(A.under (.builtin "type.__call__" ⟨.ref C::Y,kw⟩)).units=A.units+1:=by first | rfl | simp [Around.under,Code.cUnits,Code.frames,Code.isFrame]
theorem Room.make (r:Room (k+1) A) (C:Addr) (Y:LV) (kw:List (Str×Value)):Room k (A.under (.builtin "type.__call__" ⟨.ref C::Y,kw⟩)):=
 ⟨r.hd,by have:=r.dp;rw [uC];lia,by have:=r.un;rw [uB];lia⟩
theorem Room.depth (r:Room k A):A.depth < recursionLimit:=by have:=r.dp;lia
noncomputable def FR:TA:=fun _ H Q=>Q [] H
noncomputable def FW (ta:TE) (tr:TA):TA:=fun G H Q=>ta G H fun x U=>tr G U fun xs H2=>Q (x::xs) H2
section
variable {X:Cx}{e:Expr}{es:Ab}{te:TE}{t:TA}{O:Pos}
theorem g_:PA X [] FR:=fun _ _ _ _ H Q I h=>j1 ⟨[],H,I,.nil,h⟩
theorem eW (k:PE X e te) (r:PA X es t) (f:starEach (e::es) X.env=(false,eval e X.env)::starEach es X.env:=by rfl):PA X (e::es) (FW te t):=by intro O B s G H Q I h;rw [f];show wpAny _ _ (spliced ((false,eval e X.env)::backTo O (starEach es X.env))) _ _ s;refine Calls.spliced_cons (cK (k B s G H _ I h) fun u p z=>?_);obtain⟨x,U,a,c,q⟩:=z;exact cK (r O B p G U _ a q) fun Y v z=>by obtain⟨xs,H2,n,m,b⟩:=z;exact⟨x::xs,H2,n,.cons c m,b⟩
noncomputable def Jq (t:TA):TE:=fun G H Q=>t G H fun xs U=>xs.length≤sizeLine/\∀p,U p=none->Q (.ref p) (cc U p (.tup xs))
noncomputable def Jv (t:TA):TE:=fun G H Q=>t G H fun xs U=>xs.length≤sizeLine/\∀p,U p=none->Q (.ref p) (cc U p (.lst xs))
theorem qv {N} (h:PA X es t):PE X (.Tuple es N O) (Jq t):=by intro B s G H Q I n;refine wpAny_Tuple_spliced (cK (h O B s G H _ I n) fun Y x k=>?_);obtain⟨xs,U,a,r,z,q⟩:=k;refine⟨by rw [<- r.length];exact z,?_⟩;have f:U x.heap.objs.size=none:=a.hok.fresh (Nat.le_refl _);refine⟨.ref x.heap.objs.size,cc U x.heap.objs.size (.tup xs),a.laid (t':=x.toks) (fun b u e=>Heap.get?_push_of_some _ e) (Nat.le_refl _) ?_,rfl,q _ f⟩;exact⟨z,Y,r,lG.new _ _⟩
theorem yQ (h:PA X es t):PE X (.List es O) (Jv t):=by intro B s G H Q I n;refine wpAny_List_spliced (cK (h O B s G H _ I n) fun Y x k=>?_);obtain⟨xs,U,a,r,z,q⟩:=k;refine⟨by rw [<- r.length];exact z,?_⟩;have f:U x.heap.objs.size=none:=a.hok.fresh (Nat.le_refl _);refine⟨.ref x.heap.objs.size,cc U x.heap.objs.size (.lst xs),a.laid (t':=x.toks) (fun b u e=>Heap.get?_push_of_some _ e) (Nat.le_refl _) ?_,rfl,q _ f⟩;exact⟨z,Y,0,r,Heap.get?_push_size _ rfl⟩
end
noncomputable abbrev Sp:=List V->Hp->VK->XK->Prop
noncomputable abbrev xT:=List Env->Hp->Shared->XK->VP
structure Env0 (P:Program) (w:World) (K:FG) (mg:SV) (base:Heap) (A:Around) (outer:List Env) (s:Shared) (H:Hp):Prop where
 frames:A.frames=some outer
 mod:Mod K mg base
 bs:∀b o,base.get? b=some o->s.heap.get? b=some o/\H b=none
 bsz:base.objs.size≤s.heap.objs.size
 funs:s.heap.FunFrames base outer
 frf:∀b ∈ zJ outer,H b=none
 hok:jM P w H s.heap
 bare:AllBare s.gens
noncomputable def CE (o:List Env) (P:Program) (w:World) (H:Hp) (s:Shared) (Q:VK) (u:Value) (z:Shared):Prop:=
 ∃v H',z.os=s.os/\AllBare z.gens/\Un (zJ o) [] H H' s.heap z.heap/\jM P w H' z.heap/\RelV v u/\Q v H'
noncomputable def CR (CX:xT) (o:List Env) (P:Program) (w:World) (H:Hp) (s:Shared) (Q:VK) (E:XK) (r:Result) (z:Shared):Prop:=
 match r with
 | .ok (.ret u)=>CE o P w H s Q u z
 | .ok _=>False
 | .error e=>CX o H s E e z
structure FnOk (P:Program) (w:World) (K:FG) (mg:SV) (base:Heap) (CX:xT) (k:Nat) (f:Addr) (fd:FuncData) (ps:LS) (sp:Sp):Prop where
 len:∀vs H Q E,sp vs H Q E->vs.length=ps.length
 run:∀(A:Around) (outer:List Env) (s:Shared) (H:Hp) (args:Args) (us:LV) (vs:List V) (Q:VK) (E:XK),Room k A->Env0 P w K mg base A outer s H->BindsTo s fd args (ps.zip us)->aL vs us->sp vs H Q E ->
  codeAny (model P w) A (.call (.ref f) args) (CR CX outer P w H s Q E) s
theorem FnOk.imp (F:FnOk P w K mg base CX k f fd ps sp)
  (h:∀v H Q E,N v H Q E->sp v H Q E):FnOk P w K mg base CX k f fd ps N:=
 ⟨fun v H Q E q=>F.len v H Q E (h _ _ _ _ q),fun A o s H a Y v Q E r e b n x=>F.run A o s H a Y v Q E r e b n (h _ _ _ _ x)⟩
theorem Env0.make (e:Env0 P w K mg base A N s H) (C:Addr) (Y:LV) (kw:List (Str×Value)) :
  Env0 P w K mg base (A.under (.builtin "type.__call__" ⟨.ref C::Y,kw⟩)) N s H:=⟨by first | exact e.frames | (simpa [Around.under,Code.envs,Code.isFrame,pushEnvs] using e.frames),e.mod,e.bs,e.bsz,e.funs,e.frf,e.hok,e.bare⟩
section
variable {X:Cx}{B:PN}{G:St}{H:Hp}{s z:Shared}
theorem Inv.env0 (I:Inv X B G H s):Env0 X.prog X.w X.K X.mg X.base X.A X.stack s H:=
 ⟨I.ok.frames,I.ok.mod,I.bs,aM I.ok.bsz I.sz,I.stack,I.stkFree,I.hok,I.bare⟩
theorem Inv.after (I:Inv X B G H s) (h:CE X.stack X.prog X.w H s Q u z):EP X B G Q u z:=by obtain⟨v,H',os,a,un,o,r,q⟩:=h;obtain⟨n,g,d,t,e⟩:=z;obtain rfl:e=s.os:=os;exact⟨v,H',I.call (h':=n) (g':=g) (d':=d) (t':=t) (ch:=[]) un o a (fun b x=>absurd x (by simp)),r,q⟩
end
noncomputable def FX (sp:Sp) (dvs:List V) (E:XK) (t:TA):TE:=fun G H Q=>t G H fun v U=>sp (v++dvs) U Q E
noncomputable def yn (C:Addr) (m:Str) (sp:Sp) (dvs:List V) (E:XK) (ta:TE) (t:TA):TE:=fun G H Q=>ta G H fun x U=>∃a dx fs,x=.ref a/\U a=some (.ins C dx fs)/\fs.lookup m=none /\
 t G U fun v H2=>sp (x::(v++dvs)) H2 Q E
noncomputable def FT (C:Addr) (sp:Sp) (dvs:List V) (E:XK) (t:TA):TE:=fun G H Q=>t G H fun s U=>∀x dx,U x=none->U dx=none->dx≠x ->
 sp (.ref x::(s++dvs)) (cc (cc U dx (.own x)) x (.ins C dx [])) (fun v H2=>v=.non/\Q (.ref x) H2) E
noncomputable def Binds (K:FG) (fd:FuncData) (ps:LS) (ds:LV):Prop:=
 ∀(s:Shared) (Y:LV),K.In s.heap->(Y++ds).length=ps.length->BindsTo s fd ⟨Y,[]⟩ (ps.zip (Y++ds))
theorem Binds.all (h:∀Y:LV,Y.length=ps.length->bindArgs fd ⟨Y,[]⟩=pure (ps.zip Y)):Binds K fd ps []:=fun s Y _ l=>by rw [List.append_nil] at l ⊢;exact .of_eq (h Y l)
noncomputable def kh (CX:xT) (X:Cx) (E:XK):Prop:=∀(B:PN) (G:St) (H:Hp) (s:Shared) (e:Value) (z:Shared),Inv X B G H s->CX X.stack H s E e z->X.xe e z
section
variable {X:Cx}{CX:xT}{k:Nat}{f C:Addr}{fd:FuncData}{ps:LS}{sp:Sp}{dvs:List V}{ds:LV}{E:XK}{x m:Str}{p O apos:Pos}{e o:Expr}{es:Ab}{ta:TE}{t:TA}
theorem uu (F:FnOk X.prog X.w X.K X.mg X.base CX k f fd ps sp) (n:Room k X.A) (b:Binds X.K fd ps ds) (hd:aL dvs ds) (c:kh CX X E)
  (I:Inv X B G H s) (r:aL N Y) (h:sp (N++dvs) H Q E):wpAny (model X.prog X.w) X.A (call (.ref f) Y) (EP X B G Q) X.xe s:=by
 have x:aL (N++dvs) (Y++ds):=r.append hd;have a:(Y++ds).length=ps.length:=by rw [<- x.length];exact F.len _ _ _ _ h
 refine wpAny_call (codeAny_mono (F.run X.A X.stack s H ⟨Y,[]⟩ (Y++ds) (N++dvs) Q E n I.env0 (b s Y I.kIn a) x h) fun r z q=>?_);cases r with
 | error e=>exact c B G H s e z I q
 | ok l=>
  cases l with
  | ret u=>exact I.after q
  | next=>exact False.elim q
  | brk=>exact False.elim q
  | cont=>exact False.elim q
theorem qw (F:FnOk X.prog X.w X.K X.mg X.base CX k f fd ps sp) (w:Room k X.A) (g:Gl X x) (v:X.mg x=some (.ref f)) (m:PySem.W.keepIn X.K (.ref f)=true) (b:Binds X.K fd ps ds) (hd:aL dvs ds) (u:kh CX X E)
  (n:PA X (e::es) t) (d:(x == ("__debug__":Str))=false:=by decide) (c:starEach (e::es) X.env=(false,eval e X.env)::starEach es X.env:=by rfl) (l:(backTo O (starEach es X.env)).any (·.1)=false:=by rfl) :
  PE X (.Call (.Name x p) (e::es) [] O) (FX sp dvs E t):=by
 intro B s G H Q I h;refine kX (qG I g v ?_ d);refine p9 (h₀:=X.base) I.ok.mod.kin m (cK (n O B s G H _ I h) fun Y i z=>?_) c l;obtain⟨j,U,a,r,q⟩:=z;refine⟨a.kIn,?_⟩;exact uu F w b hd u a r q
theorem Bb (j:PE X o ta) (c:Cls X.K C) (d:Meth X.K C m f) (F:FnOk X.prog X.w X.K X.mg X.base CX k f fd ps sp) (y:Room k X.A) (i:Binds X.K fd ps ds) (hd:aL dvs ds) (K:kh CX X E) (g:PA X (e::es) t)
  (n:starEach (e::es) X.env=(false,eval e X.env)::starEach es X.env:=by rfl) (p:(backTo O (starEach es X.env)).any (·.1)=false:=by rfl)
  (S:eval (.Call (.Attribute o m apos) (e::es) [] O) X.env=(do
   let N <- eval o X.env
   standAt apos.atName
   let (f,first) <- holding [N] (getMethod N m pl)
   callWith O f first (backTo O (starEach (e::es) X.env)) (backToKw O (keywordEach [] X.env))):=by rfl) :
  PE X (.Call (.Attribute o m apos) (e::es) [] O) (yn C m sp dvs E ta t):=by
 intro B s G H Q I h;refine PySem.W.methodCall_KW (pl:=pl) (cK (j B s G H _ I h) fun u D z=>?_) S;obtain⟨x,U,b,A,a,dx,fs,ex,w,l,q⟩:=z;subst ex;obtain rfl:u=Value.ref a:=A;refine nM b w c d l ?_;refine p9 (first:=[.ref a]) (h₀:=X.base) I.ok.mod.kin d.kp (cK (g O B D G U _ b q) fun Y L z=>?_) n p;obtain⟨J,H2,v,r,P⟩:=z;refine⟨v.kIn,?_⟩;exact uu (Y:=.ref a::Y) (N:=.ref a::J) F y i hd K v (.cons rfl r) P
theorem yP (t:PE X o ta) (c:Cls X.K C) (n:Meth X.K C m f) (F:FnOk X.prog X.w X.K X.mg X.base CX k f fd ps sp) (p:Room k X.A) (r:Binds X.K fd ps ds) (hd:aL dvs ds) (d:kh CX X E)
  (v:eval (.Call (.Attribute o m apos) [] [] O) X.env=(do
   let N <- eval o X.env
   standAt apos.atName
   let (f,first) <- holding [N] (getMethod N m pl)
   callWith O f first (backTo O (starEach [] X.env)) (backToKw O (keywordEach [] X.env))):=by rfl) :
  PE X (.Call (.Attribute o m apos) [] [] O) (yn C m sp dvs E ta FR):=by
 intro B s G H Q I h;refine PySem.W.methodCall_KW (pl:=pl) (cK (t B s G H _ I h) fun u g z=>?_) v;obtain⟨x,U,e,w,a,dx,fs,ex,b,l,q⟩:=z;subst ex;obtain rfl:u=Value.ref a:=w;refine nM e b c n l ?_;exact PySem.W.callWith_K0 (first:=[.ref a]) e.kIn n.kp (uu (Y:=[.ref a]) (N:=[.ref a]) F p r hd d e (.cons rfl .nil) q)
structure Mk (K:FG) (C f:Addr):Prop where
 makes:PySem.W.makesIn K C=true
 init:PySem.W.findIn K (.ref C) "__init__"=some (some (.ref f))
 fn:PySem.W.isFn K (.ref f)=true
 kp:PySem.W.keepIn K (.ref C)=true
theorem yy (M:Mk X.K C f) (F:FnOk X.prog X.w X.K X.mg X.base CX k f fd ps sp) (d:Room (k+1) X.A) (t:Binds X.K fd ps ds) (hd:aL dvs ds)
  (w:kh CX X E) (I:Inv X B G H s) (r:aL N Y)
  (h:∀x dx,H x=none->H dx=none->dx≠x->sp (.ref x::(N++dvs)) (cc (cc H dx (.own x)) x (.ins C dx [])) (fun v H2=>v=.non/\Q (.ref x) H2) E) :
  wpAny (model X.prog X.w) X.A (call (.ref C) Y) (EP X B G Q) X.xe s:=by
 have n:=h (s.heap.objs.size+1) s.heap.objs.size (I.hok.fresh (kU _)) (I.hok.fresh (Nat.le_refl _)) (bo (Nat.lt_succ_self _));have a:=Inv.made (C:=C) I;have b:aL (V.ref (s.heap.objs.size+1)::(N++dvs)) (Value.ref (s.heap.objs.size+1)::(Y++ds)):=.cons rfl (r.append hd);have p:(Value.ref (s.heap.objs.size+1)::Y++ds).length=ps.length:=by have e:=b.length;rw [F.len _ _ _ _ n] at e;exact e.symm
 refine wpAny_call (zd (f:=f) I.kIn M.makes M.init (kl.mp M.fn) (codeAny_mono (F.run _ X.stack _ _ ⟨Value.ref (s.heap.objs.size+1)::Y,[]⟩ (Value.ref (s.heap.objs.size+1)::(Y++ds)) _ _ E (d.make C Y [])
  (a.env0.make C Y []) (t _ (Value.ref (s.heap.objs.size+1)::Y) a.kIn p) b n) fun r z q=>?_))
 cases r with
 | error e=>exact w B G _ _ e z a q
 | ok l=>
  cases l with
  | ret u=>obtain⟨v,H',c,i,m,g⟩:=a.after q;subst m;exact⟨i,⟨V.ref (s.heap.objs.size+1),H',c,rfl,g⟩⟩
  | next=>exact False.elim q
  | brk=>exact False.elim q
  | cont=>exact False.elim q
theorem Bc (M:Mk X.K C f) (F:FnOk X.prog X.w X.K X.mg X.base CX k f fd ps sp) (v:Room (k+1) X.A) (g:Gl X x) (m:X.mg x=some (.ref C)) (b:Binds X.K fd ps ds) (hd:aL dvs ds) (w:kh CX X E)
  (n:PA X (e::es) t) (d:(x == ("__debug__":Str))=false:=by decide) (c:starEach (e::es) X.env=(false,eval e X.env)::starEach es X.env:=by rfl) (l:(backTo O (starEach es X.env)).any (·.1)=false:=by rfl) :
  PE X (.Call (.Name x p) (e::es) [] O) (FT C sp dvs E t):=by
 intro B s G H Q I h;refine kX (qG I g m ?_ d);refine p9 (h₀:=X.base) I.ok.mod.kin M.kp (cK (n O B s G H _ I h) fun Y u z=>?_) c l;obtain⟨i,U,a,r,q⟩:=z;refine⟨a.kIn,?_⟩;exact yy M F v b hd w a r q
end
section
variable {X:Cx}{CX:xT}{k:Nat}{f C:Addr}{fd:FuncData}{ps ks:LS}{sp:Sp}{E:XK}{x m:Str}{p O apos kpos:Pos}{e o:Expr}{es:Ab}{kws:List Keyword}{te ta:TE}{t tk:TA}{nm:Option Str}
structure KBinds (K:FG) (fd:FuncData) (ps ks:LS) (g:LV->LV->LV) (gV:List V->List V->List V):Prop where
 to:∀(s:Shared) (us ws:LV),K.In s.heap->(g us ws).length=ps.length->BindsTo s fd ⟨us,ks.zip ws⟩ (ps.zip (g us ws))
 rel:∀{vs:List V}{us:LV}{zs:List V}{ws:LV},aL vs us->aL zs ws->aL (gV vs zs) (g us ws)
variable {g:LV->LV->LV}{gV:List V->List V->List V}
end
structure FnScope (N P:LS) (sc:Scope):Prop where
 kind:sc.kind=.function
 co:sc.isCoroutine=false
 gen:sc.isGenerator=false
 nd:N.Nodup
 pre:N.take P.length=P
 par:∀x ∈ P,sc.names.lookup x=some .local\/sc.names.lookup x=some .cell
 nofree:∀y ∈ sc.names,y.2≠.free
theorem pC {kindOf:Str->Option NameKind}{x:Str}:∀{b:List (Str×Value)}{m:SV},(∀v,(x,v) ∉ b)->bindL kindOf b m x=m x
 | [],_,_=>rfl
 | (n,v)::r,m,h=>by
  unfold bindL;rw [pC fun w hw=>h w (aY _ hw)];split
  .have:x≠n:=by rintro rfl;exact h v List.mem_cons_self
   simp [this]
  .rfl
theorem pE {kindOf:Str->Option NameKind}{x:Str}:∀{b:List (Str×Value)}{m:SV},(∀v,(x,v) ∉ b)->bindC kindOf b m x=m x
 | [],_,_=>rfl
 | (n,v)::r,m,h=>by
  unfold bindC;rw [pE fun w hw=>h w (aY _ hw)];split
  .rfl
  .have:x≠n:=by rintro rfl;exact h v List.mem_cons_self
   simp [this]
theorem pD {kindOf:Str->Option NameKind}{x:Str}{v:Value}:∀{P:LS}{s:LV}{i:Nat}{m:SV},P.Nodup->P[i]? = some x->s[i]? = some v->kindOf x=some .local ->
  bindL kindOf (P.zip s) m x=some v
 | [],_,_,_,_,h,_,_=>by simp at h
 | _::_,[],_,_,_,_,h,_=>by simp at h
 | p::P,w::s,0,m,n,J,h2,k=>by simp at J h2;subst J;subst h2;show bindL kindOf ((p,w)::P.zip s) m p=_;unfold bindL;rw [pC fun v a=>(List.nodup_cons.mp n).1 (List.of_mem_zip a).1,if_pos k];simp
 | p::P,w::s,i+1,m,n,J,h2,k=>by show bindL kindOf ((p,w)::P.zip s) m x=_;unfold bindL;exact pD (i:=i) (List.nodup_cons.mp n).2 (by simpa using J) (by simpa using h2) k
theorem pF {kindOf:Str->Option NameKind}{x:Str}{v:Value}:∀{P:LS}{s:LV}{i:Nat}{m:SV},P.Nodup->P[i]? = some x->s[i]? = some v->kindOf x≠some .local ->
  bindC kindOf (P.zip s) m x=some v
 | [],_,_,_,_,h,_,_=>by simp at h
 | _::_,[],_,_,_,_,h,_=>by simp at h
 | p::P,w::s,0,m,n,J,h2,k=>by simp at J h2;subst J;subst h2;show bindC kindOf ((p,w)::P.zip s) m p=_;unfold bindC;rw [pE fun v a=>(List.nodup_cons.mp n).1 (List.of_mem_zip a).1,if_neg k];simp
 | p::P,w::s,i+1,m,n,J,h2,k=>by show bindC kindOf ((p,w)::P.zip s) m x=_;unfold bindC;exact pF (i:=i) (List.nodup_cons.mp n).2 (by simpa using J) (by simpa using h2) k
noncomputable def start (N:LS) (v:List V):St:=v.map some++List.replicate (N.length-v.length) none
noncomputable def tz (CX:xT) (P:Program) (w:World) (K:FG) (mg:SV) (base:Heap) (N:LS) (q:Str) (c:Scope) (f:Addr) (d:Value) (A:Around) (o:List Env) (s:Shared) (H:Hp) (E:XK):Cx where
 prog:=P
 w:=w
 K:=K
 mg:=mg
 base:=base
 A:=A.deeper (envOfC q c s.heap.objs.size f d)
 N:=N
 s₀:=s
 H₀:=H
 env:=envOfC q c s.heap.objs.size f d
 outer:=o
 stack:=envOfC q c s.heap.objs.size f d::o
 ex:=[]
 calm:=true
 fn:=fun _=>true
 pn:=[]
 xe:=fun e z=>wpAny (model P w) (A.deeper (envOfC q c s.heap.objs.size f d)) (leaving (envOfC q c s.heap.objs.size f d) e) (fun _ h=>CX o H s E e h) (fun x h=>CX o H s E x h) z
variable {x:Str}
theorem tJ {sc:Scope} (h:sc.names.lookup x=some .cell):∃c,(cellsFrom n sc.names []).lookup x=some c:=by have q:=PySem.W.cellsFrom_some sc.names n [] (.inl h);exact Option.isSome_iff_exists.mp q
theorem xi {CX:xT}{P:Program}{w:World}{K:FG}{mg:SV}{base:Heap}{N ps:LS}{l:Str}{o:Scope}{f:Addr}{D:Value}{A:Around}{t:List Env}{s L:Shared}{H:Hp}{E:XK}{Y:LV}{F:List V}
  (S:FnScope N ps o) (hd:A.handled=none) (d:Env0 P w K mg base A t s H) (T:F.length=ps.length) (r:aL F Y)
  (x:InCallC s s.heap.objs.size (bindL (envOfC l o s.heap.objs.size f D).kindOf (ps.zip Y) fun _=>none) (cellsFrom (s.heap.objs.size+1) o.names []) (bindC (envOfC l o s.heap.objs.size f D).kindOf (ps.zip Y) fun _=>none) L) :
  Inv (tz CX P w K mg base N l o f D A t s H E) [] (start N F) H L:=by
 have O:ps.length≤N.length:=by have:=congrArg List.length S.pre;rw [iu] at this;lia
 obtain⟨J,tk,rfl,G⟩:=x.done;have j:∀b:Addr,b ∉ (tz CX P w K mg base N l o f D A t s H E).ex:=fun b z=>absurd (show b ∈ ([]:List Addr) from z) (by simp);refine⟨⟨d.mod,S.kind,rfl,rfl,Nat.le_refl _,fun y z c J h2=>?_,fun y g=>?_,fun y c _ h=>?_,fun _=>hd,Around.frames_deeper d.frames,.inr ⟨rfl,rfl⟩,fun b z=>absurd z (j b),d.bs,d.bsz,fun b _ _=>j b,fun b z=>absurd z (j b),d.funs,d.frf⟩,
  rfl,d.bare,Un.kept G,⟨_,x.toInCall.ns,fun i y v J h2 R=>?_⟩,fun y c h=>⟨_,x.cell y c h⟩,d.hok.fresh (Nat.le_refl _),fun y c h=>?_,fun p B=>absurd (show p ∈ ([]:PN) from B) (by simp),d.hok.kept G,?_⟩
 .exact name_of_addr x.apart (mY J) (mY h2)
 .have g:o.names.lookup y=some .cell\/o.names.lookup y=some .free:=g;rcases g with g | g
  .exact tJ g
  .exact absurd rfl (S.nofree _ (mY g))
 .exact ip (x.above y c (mY h))
 .have q:i < F.length:=by
   unfold start at h2;by_cases q:i < F.length
   .exact q
   .rw [fV (by simpa using q)] at h2;rw [t5] at h2;split at h2 <;> cases h2
  have M:F[i]? = some v:=by
   unfold start at h2;rw [List.getElem?_append_left (by simpa using q),List.getElem?_map] at h2;cases e:F[i]? with
   | none=>rw [e] at h2;cases h2
   | some a=>rw [e] at h2;cases h2;rfl
  obtain⟨u,I,Q⟩:=r.get M;have B:ps[i]? = some y:=by rw [<- S.pre,iz (by lia)];exact J
  have C:ps.Nodup:=by rw [<- S.pre];exact S.nd.sublist (List.take_sublist _ _)
  refine⟨u,Q,?_⟩;rcases S.par y (bF B) with k | k
  .exact .inl ⟨k,pD C B I k⟩
  .obtain⟨c,e⟩:=tJ (n:=s.heap.objs.size+1) k;refine .inr ⟨.inl k,c,e,?_⟩;have m:=x.cell y c e;rw [pF C B I (by show o.names.lookup y≠_;rw [k];decide)] at m;exact m
 .exact d.hok.fresh (ip (x.above y c (mY h)))
 .unfold start;show _=N.length;rw [List.length_append,b8,List.length_replicate];lia
theorem Hf {CX:xT}{P:Program}{w:World}{K:FG}{mg:SV}{base:Heap}{k:Nat}{f:Addr}{name a:Str}{p:Arguments}{m:List Stmt}{c:Scope}{dV kV B pm d Z oc:Value}{U od:Option Addr}
  {R:Array (OV)}{N ps:LS}{sp:Sp} (lk:K.lookup f=some ⟨oc,od,.func (PySem.W.fnOf name a p m c dV kV B pm U d Z),R⟩) (L:PySem.W.codeIn K d a=true) (S:FnScope N ps c)
  (len:∀g H Q E,sp g H Q E->g.length=ps.length)
  (j:∀(A:Around) (h:List Env) (s:Shared) (H:Hp) (g:List V) (Q:VK) (E:XK),Room k (A.deeper (envOfC a c s.heap.objs.size f d))->sp g H Q E ->
   ∃t,ms (tz CX P w K mg base N a c f d A h s H E) m t/\t { nx:=fun _ H'=>Q .non H',rt:=Q } (start N g) H) :
  FnOk P w K mg base CX (k+1) f (PySem.W.fnOf name a p m c dV kV B pm U d Z) ps sp:=by
 refine⟨len,fun A h s H W Y g Q E M C hb r G=>?_⟩;have hl:=len _ _ _ _ G;have X:K.In s.heap:=C.mod.kin.keeps fun b o e=>(C.bs b o e).1;have O:s.heap.NoLimit:=C.mod.nolimit.keeps fun b o e=>(C.bs b o e).1;have l:∀y ∈ ps.zip Y,c.names.lookup y.1=some .local\/(c.names.lookup y.1=some .cell/\((cellsFrom (s.heap.objs.size+1) c.names []).lookup y.1).isSome=true):=fun ⟨n,v⟩ hy=>by
  rcases S.par n (List.of_mem_zip hy).1 with q | q
  .exact .inl q
  .exact .inr ⟨q,PySem.W.cellsFrom_some _ _ _ (.inl q)⟩
 refine codeAny_call_function M.depth (X _ _ lk) rfl S.co S.gen rfl (PySem.W.codeRec_of X L) (hb _ _ _ _ ?_);refine wpAny_newFunctionEnv_cells S.kind l fun env he s1 x=>?_;subst he;refine⟨O.keeps x.toInCall.keep,codeAny_func ?_⟩;obtain⟨t,ht,hq⟩:=j A h s H g Q E (M.deeper _) G;have I:Inv (tz CX P w K mg base N a c f d A h s H E) [] (start N g) H s1:=xi S M.hd C hl r x;refine wpAny_mono (ht [] s1 (start N g) H _ I hq) (fun fl z F=>?_) fun e z F=>F;have D:∀{i:St}{H':Hp}{v:V}{u:Value},Inv (tz CX P w K mg base N a c f d A h s H E) [] i H' z->RelV v u->Q v H'->CE h P w H s Q u z:=
  fun {i H' v u} J T q=>⟨v,H',J.os,J.bare,J.base,J.hok,T,q⟩
 cases fl with
 | ret u=>obtain⟨v,i,H',J,T,q⟩:=F;exact D J T q
 | next=>obtain⟨i,H',J,q⟩:=F;exact D (v:=V.non) (u:=Value.none) J rfl q
 | brk=>obtain⟨_,_,_,q⟩:=F;exact False.elim q
 | cont=>obtain⟨_,_,_,q⟩:=F;exact False.elim q
section
variable {X:Cx}{x:Str}{p O:Pos}{e:Expr}{es:Ab}{t:TA}{id T:String}{r:List V->Hp->VK->Prop}
noncomputable def Ks (r:List V->Hp->VK->Prop) (t:TA):TE:=fun G H Q=>t G H fun v U=>r v U Q
theorem kz (c:c6 X (.builtin id) r) (g:Gl X x) (m:X.mg x=none) (v:bootBuiltins x=some (.builtin id)) (n:PA X (e::es) t) (f:x≠"__name__":=by decide) (d:(x == ("__debug__":Str))=false:=by decide)
  (k:starEach (e::es) X.env=(false,eval e X.env)::starEach es X.env:=by rfl) (l:(backTo O (starEach es X.env)).any (·.1)=false:=by rfl):PE X (.Call (.Name x p) (e::es) [] O) (Ks r t):=by
 intro B s G H Q I h;refine kX (jo I g m v ?_ f d);exact PyProof.Rows.callWith_builtin1 (cK (n O B s G H _ I h) fun Y w z=>by obtain⟨u,U,a,b,q⟩:=z;exact c B w G U u Y Q a b q) k l
theorem lf (c:c6 X (.type T) r) (g:Gl X x) (m:X.mg x=none) (v:bootBuiltins x=some (.type T)) (n:PA X (e::es) t) (f:x≠"__name__":=by decide) (d:(x == ("__debug__":Str))=false:=by decide)
  (k:starEach (e::es) X.env=(false,eval e X.env)::starEach es X.env:=by rfl) (l:(backTo O (starEach es X.env)).any (·.1)=false:=by rfl):PE X (.Call (.Name x p) (e::es) [] O) (Ks r t):=by
 intro B s G H Q I h;refine kX (jo I g m v ?_ f d);exact k4 (cK (n O B s G H _ I h) fun Y w z=>by obtain⟨u,U,a,b,q⟩:=z;exact c B w G U u Y Q a b q) k l
end
end L2
namespace HT
open PySem PyProof.Rows
section
variable {prog:Program}{w:World}{A:Around}{E:VP}{s:Shared}
theorem BR (q:IsTup s.heap t vs.toArray) (p:IsTup s.heap b N.toArray) (v:vs≠[])
  (J:N=[]->Q (.ref t) s) (h2:N≠[]->Q (.ref s.heap.objs.size) { s with heap:=s.heap.push { cls:=.type "tuple",data:=.seq (vs++N).toArray } })
  (z:vs.length+N.length≤sizeLine):wpAny (model prog w) A (binaryOp .Add (.ref t) (.ref b)) Q E s:=by
 obtain⟨⟨cls,k,data,r⟩,o,f,n,hd⟩:=id q;obtain⟨⟨a,d,data2,l⟩,h,c,m,x⟩:=id p;simp only at f hd c x;subst f hd c x;have e:vs.toArray++N.toArray=(vs++N).toArray:=by simp
 by_cases hw:N=[]
 .exact concat_meets ⟨_,o,rfl⟩ ⟨_,h,rfl⟩ noFill_tuple_add seq_tuple_add tZ t6 (ua _ _)
   (tuple_addW1 t b vs.toArray N.toArray n m k d r l (by simpa using v) (by simp [hw])) ⟨o,h,J hw⟩
 .refine concat_meets ⟨_,o,rfl⟩ ⟨_,h,rfl⟩ noFill_tuple_add seq_tuple_add tZ t6 (ua _ _)
   (tuple_addW2 t b vs.toArray N.toArray n m k d r l (by simpa using v) (by simpa using hw) (by rw [List.size_toArray,List.size_toArray];exact z)) ⟨o,h,?_⟩
  rw [e];exact h2 hw
noncomputable def ey (n d:Nat):Option Int->Nat
 | none=>d
 | some v=>if v < 0 then (v+(n:Int)).toNat else min v.toNat n
theorem sh (n d:Nat):ey n d none=d:=rfl
theorem vu (n d k:Nat):ey n d (some (k:Int))=min k n:=by show (if (k:Int) < 0 then ((k:Int)+(n:Int)).toNat else min (k:Int).toNat n)=min k n;rw [if_neg (by lia),Int.toNat_natCast]
theorem Dd (n d:Nat) (hd:d≤n) (o:Option Int):ey n d o≤n:=by
 cases o with
 | none=>exact hd
 | some v=>
  show (if v < 0 then (v+(n:Int)).toNat else min v.toNat n)≤n;by_cases h:v < 0
  .rw [if_pos h];lia
  .rw [if_neg h];exact Nat.min_le_right _ _
theorem wn (v:Int) (n d:Nat):(if v < 0 then max (v+(n:Int)) 0 else min v (n:Int))=((ey n d (some v):Nat):Int):=by
 show (if v < 0 then max (v+(n:Int)) 0 else min v (n:Int))=(((if v < 0 then (v+(n:Int)).toNat else min v.toNat n):Nat):Int);by_cases h:v < 0
 .simp only [if_pos h];lia
 .simp only [if_neg h];lia
theorem u4 (I q:Option Int) (n:Nat):Builtin.Slice.sliceAdjust I q 1 (n:Int)=(((ey n 0 I:Nat):Int),((ey n n q:Nat):Int)):=by
 have J:¬((1:Int) < 0):=by lia
 unfold Builtin.Slice.sliceAdjust;simp only [J,if_false];refine Prod.ext ?_ ?_
 .cases I with
  | none=>rfl
  | some v=>exact wn v n 0
 .cases q with
  | none=>rfl
  | some v=>exact wn v n n
theorem uw (i j:Nat):Builtin.Slice.slicePlaces (i:Int) (j:Int) 1=j-i:=by
 unfold Builtin.Slice.slicePlaces;have J:(1:Int) > 0:=by lia
 simp only [J,iC,Int.ediv_one];split <;> lia
theorem nj (p:IsPart v o) (h:Q o s):wpAny (model prog w) A (Builtin.Slice.slicePartIndex v) Q E s:=by
 cases p with
 | none=>exact slicePart_none h
 | int i t=>exact slicePart_int h
theorem hX {l:Addr}{v u:Value}{I q:Option Int}{n:Nat}{Q:Int×Int×Nat->Shared->Prop} (a:s.heap.IsSliceOf l v u .none) (p:IsPart v I) (e:IsPart u q)
  (h:Q (((ey n 0 I:Nat):Int),1,ey n n q-ey n 0 I) s):wpAny (model prog w) A (Builtin.Slice.sliceApplied (.ref l) (pure (n:Int))) Q E s:=by
 obtain⟨os,o,c,d⟩:=id a;unfold Builtin.Slice.sliceApplied Builtin.Slice.sliceFields;refine wpAny_bind (wpAny_bind (wpAny_field o d (x:=v) rfl (wpAny_bind (wpAny_field o d (x:=u) rfl (wpAny_bind (wpAny_field o d (x:=.none) rfl (wpAny_pure ?_)))))));refine wpAny_bind (slicePart_none ?_);show wpAny _ _ (if ((1:Int) == 0)=true then _ else _) _ _ s;rw [if_neg (by decide)];refine wpAny_bind (nj p (wpAny_bind (nj e (wpAny_bind (wpAny_pure ?_)))));show wpAny _ _ (match Builtin.Slice.sliceAdjust I q 1 (n:Int) with | (I,q)=>pure (I,(1:Int),Builtin.Slice.slicePlaces I q 1)) _ _ s;rw [u4 I q n];show wpAny _ _ (pure (((ey n 0 I:Nat):Int),(1:Int),Builtin.Slice.slicePlaces ((ey n 0 I:Nat):Int) ((ey n n q:Nat):Int) 1)) _ _ s;rw [uw];exact wpAny_pure h
theorem yL (xs:Array Value) (i k:Nat):((List.range k).filterMap fun (m:Nat)=>xs[((i:Int)+(m:Int) * 1).toNat]?).toArray=((xs.toList.drop i).take k).toArray:=by
 have e:(fun (m:Nat)=>xs[((i:Int)+(m:Int) * 1).toNat]?)=fun m=>xs[i+m]?:=by
  funext m;have:((i:Int)+(m:Int) * 1).toNat=i+m:=by lia
  rw [this]
 rw [e];have:=pick_run xs i k
 rw [List.filterMap_map] at this;have h:((fun x=>xs[x]?) ∘ fun x=>i+x)=fun m=>xs[i+m]?:=rfl;rw [h] at this;rw [this]
theorem kG {t l:Addr}{i:Array Value}{v u:Value}{I q:Option Int}{Q:VP} (e:IsTup s.heap t i) (k:s.heap.IsSliceOf l v u .none) (p:IsPart v I) (f:IsPart u q)
  (hw:¬(ey i.size 0 I=0/\ey i.size i.size q=i.size))
  (h:Q (.ref s.heap.objs.size) { s with heap:=s.heap.push { cls:=.type "tuple",data:=.seq ((i.toList.drop (ey i.size 0 I)).take (ey i.size i.size q-ey i.size 0 I)).toArray } })
  (z:i.size≤sizeLine):wpAny (model prog w) A (getItem (.ref t) (.ref l)) Q E s:=by
 have a:sizeOk (.seq ((i.toList.drop (ey i.size 0 I)).take (ey i.size i.size q-ey i.size 0 I)).toArray):=by show ((i.toList.drop (ey i.size 0 I)).take (ey i.size i.size q-ey i.size 0 I)).toArray.size≤sizeLine;rw [List.size_toArray,iu,pZ,mW];lia
 have j:ey i.size i.size q≤i.size:=Dd _ _ (Nat.le_refl _) q;obtain⟨os,o,c,d⟩:=id k;have T:s.TypeIs (.ref l) "slice":=⟨os,o,c⟩;unfold getItem;try with_reducible refine wpAny_holding ?_
 first | refine wpAny_bind (wpAny_pure ?_) | skip
 refine wpAny_bind (wpAny_sequenceKey e.typeIs (by decide) ?_);refine wpAny_bind (wpAny_callSpecial?_slot (name:=Str.ofString "__getitem__") e.typeIs jY
  (wpAny_call_entry jY e.typeIs entry_tuple_getitem ?_ (args_tuple_getitem _ _)))
 show wpAny _ _ (Builtin.Tuple.tupleItemsOf (.ref t) >>= _) _ _ s;refine wpAny_bind (tupleItemsOf_ e ?_);refine wpAny_bind (kn T ?_);rw [if_pos (by decide)];refine wpAny_bind (hX k p f ?_);have n:¬((((ey i.size 0 I:Nat):Int) == 0 && (1:Int) == 1 && (ey i.size i.size q-ey i.size 0 I) == i.size)=true):=by intro x;rw [Bool.and_eq_true,Bool.and_eq_true] at x;have b:((ey i.size 0 I:Nat):Int)=0:=eq_of_beq x.1.1;have r:ey i.size i.size q-ey i.size 0 I=i.size:=eq_of_beq x.2;exact hw ⟨by lia,by lia⟩
 show wpAny _ _ (if (((ey i.size 0 I:Nat):Int) == 0 && (1:Int) == 1 && (ey i.size i.size q-ey i.size 0 I) == i.size)=true then _ else _) _ _ s;rw [if_neg n,yL];first
  | exact wpAny_bind (m:=Builtin.Tuple.tupleExact _) (wpAny_newObj_type (wpAny_pure ⟨_,rfl,wpAny_pure h⟩) a)
  | exact wpAny_bind (m:=Builtin.Tuple.tupleExact _) (wpAny_newObj_type (wpAny_bind (wpAny_pure (wpAny_pure ⟨_,rfl,wpAny_pure h⟩))) a)
  | exact wpAny_bind (wpAny_bind (m:=Builtin.Tuple.tupleExact _) (wpAny_newObj_type (wpAny_pure (wpAny_pure ⟨_,rfl,wpAny_pure h⟩)) a))
  | exact wpAny_bind (wpAny_bind (m:=Builtin.Tuple.tupleExact _) (wpAny_newObj_type (wpAny_pure ⟨_,rfl,wpAny_pure h⟩) a))
end
end HT
namespace L2
open PySem PySem.Spec PyProof.Rows
noncomputable abbrev TO:=St->Hp->(Option Int->Hp->Prop)->Prop
noncomputable def PO (X:Cx) (e:Option Expr) (t:TO):Prop:=
 ∀(B:PN) (s:Shared) (G:St) (H:Hp) (Q:Option Int->Hp->Prop),Inv X B G H s->t G H Q ->
  wpAny (model X.prog X.w) X.A (evalPart e X.env) (fun u z=>∃o H',Inv X B G H' z/\IsPart u o/\Q o H') X.xe s
noncomputable def AM:TO:=fun _ H Q=>Q none H
noncomputable def FP (t:TE):TO:=fun G H Q=>t G H fun x U=>∃i,x=.int i/\Q (some i) U
section
variable {X:Cx}{e:Expr}{te:TE}{I q:Option Expr}{tl th:TO}{O p2:Pos}
theorem A9:PO X none AM:=by intro B s G H Q I h;rw [evalPart_none];exact wpAny_pure ⟨none,H,I,.none,h⟩
theorem A7 (h:PE X e te):PO X (some e) (FP te):=by
 intro B s G H Q I hw;rw [evalPart_some];refine cK (h B s G H _ I hw) fun u k z=>?_
 obtain⟨x,U,a,r,n⟩:=z;obtain⟨i,rfl,q⟩:=n;obtain⟨t,rfl⟩:=r;exact⟨some i,U,a,.int i t,q⟩
noncomputable def B1 (X:Cx) (r:V->Option Int->Option Int->Hp->VK->Prop):Prop:=
 ∀(B:PN) (s:Shared) (G:St) (H:Hp) (x:V) (v h u:Value) (I q:Option Int) (l:Addr) (Q:VK),Inv X B G H s->RelV x v->s.heap.IsSliceOf l h u .none->IsPart h I->IsPart u q->r x I q H Q ->
  ∃T id,typeLookup (.type T) "__getitem__"=pure (some (.builtin id))/\s.TypeIs v T/\wpAny (model X.prog X.w) X.A (getItem v (.ref l)) (EP X B G Q) X.xe s
theorem B1.or (h:B1 X r) (h':B1 X N):B1 X (fun x I q H Q=>r x I q H Q\/N x I q H Q):=by
 intro B s G H x v f b I q l Q a k n p u e;rcases e with e | e
 .exact h B s G H x v f b I q l Q a k n p u e
 .exact h' B s G H x v f b I q l Q a k n p u e
noncomputable def Le (r:V->Option Int->Option Int->Hp->VK->Prop) (te:TE) (tl th:TO):TE:=fun G H Q=>te G H fun x U=>tl G U fun l H2=>th G H2 fun u h=>r x l u h Q
theorem yO (o:B1 X r) (i:PE X e te) (y:PO X I tl) (F:PO X q th):PE X (.Subscript e (.Slice I q none p2) O) (Le r te tl th):=by
 intro B s G H Q a h;refine Subscript_ (cK (i B s G H _ a h) fun v J z=>?_);obtain⟨x,U,t,E,A⟩:=z;refine wpAny_Slice (cK (y B J G U _ t A) fun f L ⟨l,H2,p,K,C⟩=>cK (F B L G H2 _ p C) fun c k z=>?_);obtain⟨u,m,d,P,D⟩:=z;rw [evalPart_none];refine wpAny_pure ?_;have w:Inv X B G m { k with heap:=k.heap.push { cls:=.type "slice",data:=.fields #[f,c,.none] } }:=d.kept (t':=k.toks) fun b M n=>Heap.get?_push_of_some _ n
 obtain⟨T,id,g,S,j⟩:=o B { k with heap:=k.heap.push { cls:=.type "slice",data:=.fields #[f,c,.none] } } G m x v f c l u k.heap.objs.size Q w E (Heap.IsSliceOf.new ..) K P D;show wpAny (model X.prog X.w) X.A (subscriptTail e (.Slice I q none p2) v (.ref k.heap.objs.size)) (EP X B G Q) X.xe { k with heap:=k.heap.push { cls:=.type "slice",data:=.fields #[f,c,.none] } };exact tail_any (ops:=[.ref k.heap.objs.size,v]) S g j (by with_unfolding_all rfl)
noncomputable def tB (xs:List V) (I q:Option Int):List V:=(xs.drop (HT.ey xs.length 0 I)).take (HT.ey xs.length xs.length q-HT.ey xs.length 0 I)
theorem lY (xs:List V) (I q:Option Int):(tB xs I q).length≤xs.length:=by unfold tB;rw [iu,pZ];lia
noncomputable def JD (K:FG):V->Option Int->Option Int->Hp->VK->Prop:=fun x I q H Q=>∃a xs,x=.ref a/\kT K H a xs /\
 ¬(HT.ey xs.length 0 I=0/\HT.ey xs.length xs.length q=xs.length)/\∀p,H p=none->Q (.ref p) (cc H p (.tup (tB xs I q)))
theorem C_:B1 X (JD X.K):=by
 intro B s G H x v w g I q d Q e c k p u h;obtain⟨a,xs,rfl,f,hw,n⟩:=h;cases c;obtain⟨i,r,t,z⟩:=e.tuple f;have l:i.toArray.size=xs.length:=by rw [List.size_toArray];exact r.length.symm
 refine⟨"tuple",_,jY.lookup,t.typeIs,?_⟩;refine HT.kG t k p u (by rw [l];exact hw) ?_ (by rw [l];exact z);rw [l];refine⟨.ref s.heap.objs.size,_,e.laid (t':=s.toks) (o:=.tup (tB xs I q)) (fun b m n=>Heap.get?_push_of_some _ n) (Nat.le_refl _) ?_,rfl,n _ (e.hok.fresh (Nat.le_refl _))⟩;exact⟨aM (lY xs I q) z,_,(r.drop (HT.ey xs.length 0 I)).take (HT.ey xs.length xs.length q-HT.ey xs.length 0 I),lG.new _ _⟩
noncomputable def Gf (K:FG):R2:=fun x y H Q=>∃a b xs ys,x=.ref a/\y=.ref b/\kT K H a xs/\kT K H b ys/\xs≠[]/\xs.length+ys.length≤sizeLine /\
 (ys=[]->Q (.ref a) H)/\(ys≠[]->∀p,H p=none->Q (.ref p) (cc H p (.tup (xs++ys))))
theorem aL.nil_iff (r:aL xs Y):Y=[]↔xs=[]:=by
 cases r with
 | nil=>simp
 | cons _ _=>simp
theorem Bi:io X (binaryOp .Add) (Gf X.K):=by intro B s G H x y v u Q I g j h;obtain⟨a,b,xs,ys,rfl,rfl,k,f,c,n,m,d⟩:=h;cases g;cases j;obtain⟨t,e,p,_⟩:=I.tuple k;obtain⟨i,r,p2,_⟩:=I.tuple f;refine HT.BR p p2 (fun z=>c (e.nil_iff.mp z)) (fun z=>⟨.ref a,H,I,rfl,m (r.nil_iff.mp z)⟩) (fun z=>?_) (by rw [<- e.length,<- r.length];exact n);refine⟨.ref s.heap.objs.size,_,I.laid (t':=s.toks) (o:=.tup (xs++ys)) (fun b l q=>Heap.get?_push_of_some _ q) (Nat.le_refl _) ?_,rfl,d (fun w=>z (r.nil_iff.mpr w)) _ (I.hok.fresh (Nat.le_refl _))⟩;exact⟨by rw [List.length_append];exact n,_,e.append r,lG.new _ _⟩
end
noncomputable def xc (n:Nat) (i:Int):Option Nat:=if 0≤i then (if i < n then some i.toNat else none) else if -(n:Int)≤i then some (i+n).toNat else none
variable {α:Type}
noncomputable def atI (xs:List α) (i:Int):Option α:=(xc xs.length i).bind fun j=>xs[j]?
variable {n:Nat}
theorem vU {i:Int} (h:xc n i=some N):seqIndex? i n=some N/\N < n/\-(n:Int)≤i/\i < n:=by
 unfold xc at h;by_cases x:0≤i
 .rw [if_pos x] at h;by_cases J:i < n
  .rw [if_pos J] at h;have e:i.toNat=N:=Option.some.inj h;exact⟨by rw [seqIndex_of x J,e],by lia,by lia,J⟩
  .rw [if_neg J] at h;cases h
 .rw [if_neg x] at h;by_cases J:-(n:Int)≤i
  .rw [if_pos J] at h;have e:(i+n).toNat=N:=Option.some.inj h;exact⟨by rw [seqIndex_neg (by lia) J,e],by lia,J,by lia⟩
  .rw [if_neg J] at h;cases h
theorem rN {i:Int} (h:atI xs i=some v):∃j,seqIndex? i xs.length=some j/\xs[j]? = some v/\j < xs.length/\-(xs.length:Int)≤i/\i < xs.length:=by
 unfold atI at h;cases e:xc xs.length i with
 | none=>rw [e] at h;cases h
 | some j=>rw [e] at h;obtain⟨J,h2,x,a⟩:=vU e;exact⟨j,J,h,h2,x,a⟩
theorem atI_last (xs:List α) (v:α):atI (xs++[v]) (-1)=some v:=by
 have h:(xs++[v]).length=xs.length+1:=by simp
 have e:xc (xs++[v]).length (-1)=some xs.length:=by unfold xc;rw [h,if_neg (by decide),if_pos (by lia)];congr 1;lia
 unfold atI;rw [e];show (xs++[v])[xs.length]? = some v;simp
noncomputable def kQ (b:Expr):Prop:=∀o i,subscripted b false o i=operate [o,i] (getItem o i)
noncomputable def Ap (X:Cx) (r:R2):Prop:=
 ∀(value l:Expr) (B:PN) (s:Shared) (G:St) (H:Hp) (x y:V) (v u:Value) (Q:VK),Inv X B G H s->RelV x v->RelV y u->r x y H Q ->
  subscripted l false v u=operate [v,u] (getItem v u)->wpAny (model X.prog X.w) X.A (subscriptTail value l v u) (EP X B G Q) X.xe s
noncomputable def L3 (X:Cx) (id:String) (r:V->List V->Hp->VK->Prop):Prop:=
 ∀(B:PN) (s:Shared) (G:St) (H:Hp) (x:V) (xs:List V) (v:Value) (Y:LV) (Q:VK),Inv X B G H s->RelV x v->aL xs Y->r x xs H Q ->
  wpAny (model X.prog X.w) X.A (call (.builtin id) (v::Y)) (EP X B G Q) X.xe s
section
variable {X:Cx}{a b:Expr}{ta tb:TE}{O:Pos}
theorem Ap.or (h:Ap X r) (h':Ap X N):Ap X (fun x y H Q=>r x y H Q\/N x y H Q):=by
 intro value l B s G H x y v u Q I e n q a;rcases q with q | q
 .exact h value l B s G H x y v u Q I e n q a
 .exact h' value l B s G H x y v u Q I e n q a
theorem yR (f:Ap X r) (n:PE X a ta) (k:PE X b tb) (c:kQ b):PE X (.Subscript a b O) (C3 r ta tb):=by intro B s G H Q I h;exact Subscript_ (EF n k I h fun v u p x y H2 e m t q=>f a b B p G H2 x y v u Q e m t q (c _ _))
noncomputable def JJ (K:FG):R2:=fun x y H Q=>∃p xs i v,x=.ref p/\y=.int i/\gQ K H p xs/\atI xs i=some v/\Q v H
noncomputable def JH (K:FG):R2:=fun x y H Q=>∃p xs i v,x=.ref p/\y=.int i/\kT K H p xs/\atI xs i=some v/\Q v H
noncomputable def JI:R2:=fun x y H Q=>∃z i c,x=.str z/\y=.int i/\z.length≤sizeLine/\atI z.cps.toList i=some c/\Q (.str ⟨#[c]⟩) H
theorem qH:Ap X (JJ X.K):=by
 intro value c B s G H x y v u Q I P A h d;obtain⟨p,xs,i,a,rfl,rfl,K,S,q⟩:=h;cases P;obtain⟨t,rfl⟩:=A;obtain⟨n,r,l,E⟩:=I.list K;obtain⟨j,J,h2,C,g,o⟩:=rN S;obtain⟨w,b,k⟩:=r.get h2;have F:=r.length;have D:=jk;have f:EP X B G Q w s:=⟨a,H,I,k,q⟩;by_cases m:0≤i
 .have e:i.toNat=j:=by
   rw [seqIndex_of m o] at J;exact Option.some.inj J
  exact item_listR l.isList m (by lia) (by rw [e];simpa using b) f d
 .have e:(i+(n.toArray.size:Int)).toNat=j:=by
   rw [seqIndex_neg (by lia) g] at J;rw [List.size_toArray,<- F];exact Option.some.inj J
  exact subscriptTail_builtinR (x:=w) l.isList.typeIs slot_list_getitem.lookup
   (wpAny_getItem_list_neg (Q:=fun r z=>r=w/\EP X B G Q r z) l.isList (by lia) (by rw [List.size_toArray] <;> lia) (by lia) (by rw [e];simpa using b) ⟨rfl,f⟩) d
theorem Eb:Ap X (JH X.K):=by
 intro value l B s G H x y v u Q I o S h d;obtain⟨p,xs,i,a,rfl,rfl,m,b,q⟩:=h;cases o;obtain⟨t,rfl⟩:=S;obtain⟨g,r,n,C⟩:=I.tuple m;obtain⟨j,J,h2,F,K,P⟩:=rN b;obtain⟨w,k,e⟩:=r.get h2;have c:=r.length;have A:=jk;have f:EP X B G Q w s:=⟨a,H,I,e,q⟩;exact subscriptTail_builtinR (x:=w) n.typeIs jY.lookup
  (getItem_tuple (j:=j) (Q:=fun r z=>r=w/\EP X B G Q r z) n (by lia) (by lia) (by rw [List.size_toArray,<- c];exact J) (by simpa using k) ⟨rfl,f⟩) d
theorem Ec:Ap X JI:=by
 intro value l B s G H x y v u Q I r p h m;obtain⟨z,i,c,rfl,rfl,g,f,q⟩:=h;obtain⟨t,rfl⟩:=r;obtain⟨o,rfl⟩:=p;obtain⟨j,J,h2,d,n,k⟩:=rN f;have b:z.cps.toList.length=z.length:=by simp [Str.length]
 rw [b] at J n k;have w:=jk;exact tail_any (typeIs_str s z t) slot_str_getitem.lookup (getItem_str (c:=c) (by have e:decide (i < -(2 ^ 63:Int))=false:=bq (by lia);have a:decide (i ≥ 2 ^ 63)=false:=bq (by lia);rw [e,a,Bool.or_false]) (by rw [J];simpa using h2) ⟨.str ⟨#[c]⟩,H,I.tok _,⟨_,rfl⟩,q⟩) m
theorem uA (i:LV) (n j:Nat) (u:Value):Obj.mapSeq (·.setIfInBounds j u) { cls:=.type "list",data:=.seq i.toArray n }={ cls:=.type "list",data:=.seq (i.set j u).toArray n }:=by simp [Obj.mapSeq]
theorem Inv.lst (I:Inv X B G H s) (h:H p=some (.lst xs)) :
  ∃(i:LV) (n:Nat),aL xs i/\s.heap.get? p=some { cls:=.type "list",data:=.seq i.toArray n }/\xs.length≤sizeLine:=by
 obtain⟨z,i,n,r,e⟩:=I.hok p _ h;exact⟨i,n,r,e,z⟩
theorem Inv.lstUpd {i:LV} (I:Inv X B G H s) (h:H p=some (.lst xs))
  (o:s.heap.get? p=some { cls:=.type "list",data:=.seq i.toArray n }) (a:f { cls:=.type "list",data:=.seq i.toArray n }={ cls:=.type "list",data:=.seq N.toArray n' }) (r:aL ys N) (z:ys.length≤sizeLine) (t:Nat) :
  Inv X B G (cc H p (.lst ys)) { s with heap:=s.heap.update p f,toks:=t }:=by
 have e:(s.heap.update p f).get? p=some { cls:=.type "list",data:=.seq N.toArray n' }:=by rw [p7 f o (by rw [a] <;> rfl),a]
 refine I.write (x:=p) (e:=p) (by rw [h];trivial) (.inl rfl) (fun b u k q=>(Heap.get?_update_other _ _ (Ne.symm k)).trans q) ⟨_,e⟩ ?_;exact⟨z,N,n',r,e⟩
noncomputable def Ge:V->V->V->Hp->(Hp->Prop)->Prop:=fun o i v H Q=>∃p xs k j,o=.ref p/\i=.int k/\H p=some (.lst xs)/\xc xs.length k=some j/\Q (cc H p (.lst (xs.set j v)))
theorem yq:HG X Ge:=by
 intro B s G H o i v P K u Q I y g S h;obtain⟨p,xs,k,j,rfl,rfl,d,w,q⟩:=h;cases y;obtain⟨t,rfl⟩:=g;obtain⟨x,n,r,e,z⟩:=I.lst d;obtain⟨J,h2,c,m⟩:=vU w;have l:=r.length;have F:=jk;have f:Inv X B G (cc H p (.lst (xs.set j v))) { s with heap:=s.heap.update p (Obj.mapSeq (·.setIfInBounds j u)) }:=
  I.lstUpd d e (uA x n j u) (r.set S j) (by rw [eG];exact z) s.toks
 by_cases b:0≤k
 .have a:k.toNat=j:=by
   rw [seqIndex_of b m] at J;exact Option.some.inj J
  exact PySem.W.ki_setAt e b (by lia) (by rw [List.size_toArray,<- l];exact m) (by rw [a];exact⟨_,f,q⟩)
 .have a:(k+(x.toArray.size:Int)).toNat=j:=by
   rw [seqIndex_neg (by lia) c] at J;rw [List.size_toArray,<- l];exact Option.some.inj J
  exact PySem.W.ki_setBack e (by lia) (by rw [List.size_toArray,<- l];exact c) (by lia) (by rw [a];exact⟨_,f,q⟩)
theorem qq (I q:Option Int) (n:Nat):(sliceBounds I q none n).1=((HT.ey n 0 I:Nat):Int)/\(sliceBounds I q none n).2.1=((HT.ey n n q:Nat):Int)/\(sliceBounds I q none n).2.2=1:=by
 refine⟨?_,?_,rfl⟩
 .cases I with
  | none=>simp [sliceBounds,HT.ey]
  | some i=>
   simp only [sliceBounds,HT.ey,Option.getD_none,show (1:Int) > 0 by decide,iC];by_cases h:i < 0
   .simp only [h,iC] <;> lia
   .simp only [h,if_false] <;> lia
 .cases q with
  | none=>simp [sliceBounds,HT.ey]
  | some i=>
   simp only [sliceBounds,HT.ey,Option.getD_none,show (1:Int) > 0 by decide,iC];by_cases h:i < 0
   .simp only [h,iC] <;> lia
   .simp only [h,if_false] <;> lia
theorem on (i:LV) (I q:Option Int):slicePick i.toArray I q none=((i.drop (HT.ey i.length 0 I)).take (HT.ey i.length i.length q-HT.ey i.length 0 I)).toArray:=by obtain⟨J,h2,h⟩:=qq I q i.toArray.size;unfold slicePick;rw [J,h2,h];simp only [sliceRange_one,pick_run,List.size_toArray] <;> rfl
noncomputable def JE (K:FG):V->Option Int->Option Int->Hp->VK->Prop:=fun x I q H Q=>∃a xs,x=.ref a/\gQ K H a xs/\∀p,H p=none->Q (.ref p) (cc H p (.lst (tB xs I q)))
theorem AQ:B1 X (JE X.K):=by intro B s G H x v w g I q d Q e c k p u h;obtain⟨a,xs,rfl,f,n⟩:=h;cases c;obtain⟨i,r,t,z⟩:=e.list f;have l:=r.length;refine⟨"list",_,slot_list_getitem.lookup,t.isList.typeIs,?_⟩;refine wpAny_getItem_list_slice t.isList k p u .none (by simp) ?_ (by rw [List.size_toArray] <;> lia);rw [on,<- l];refine⟨.ref s.heap.objs.size,_,e.laid (t':=s.toks) (o:=.lst (tB xs I q)) (fun b m n=>Heap.get?_push_of_some _ n) (Nat.le_refl _) ?_,rfl,n _ (e.hok.fresh (Nat.le_refl _))⟩;exact⟨aM (lY xs I q) z,_,0,(r.drop (HT.ey xs.length 0 I)).take (HT.ey xs.length xs.length q-HT.ey xs.length 0 I),Heap.get?_push_size _ rfl⟩
theorem rJ:c6 X (.builtin "len") (fun xs H Q=>∃p ys,xs=[.ref p]/\(gQ X.K H p ys\/kT X.K H p ys)/\Q (.int ys.length) H):=by
 intro B s G H xs Y Q I r h;obtain⟨p,ys,rfl,x,q⟩:=h;obtain⟨u,rfl,n⟩:=vals1 r;cases n;have k:=jk;rcases x with x | x
 .obtain⟨i,e,a,z⟩:=I.list x;have l:=e.length;exact Calls.call_len_list a.isList (by simp only [List.size_toArray] <;> lia) ⟨.int ys.length,H,I.tok _,⟨s.toks+1,by rw [List.size_toArray,l]⟩,q⟩
 .obtain⟨i,e,a,z⟩:=I.tuple x;have l:=e.length;exact len_tuple a (by simp only [List.size_toArray] <;> lia) ⟨.int ys.length,H,I.tok _,⟨s.toks+1,by rw [List.size_toArray,l]⟩,q⟩
theorem rH:c6 X (.builtin "len") (fun xs H Q=>∃z,xs=[.str z]/\z.length≤sizeLine/\Q (.int z.length) H):=by intro B s G H xs Y Q I r h;obtain⟨z,rfl,x,q⟩:=h;obtain⟨u,rfl,t,rfl⟩:=vals1 r;have n:=jk;exact len_str (by lia) ⟨.int z.length,H,I.tok _,⟨_,rfl⟩,q⟩
theorem c6.or (h:c6 X f r) (h':c6 X f N):c6 X f (fun xs H Q=>r xs H Q\/N xs H Q):=by
 intro B s G H xs Y Q I x q;rcases q with q | q
 .exact h B s G H xs Y Q I x q
 .exact h' B s G H xs Y Q I x q
theorem kL:c6 X (.type "list") (fun xs H Q=>∃p ys,xs=[.ref p]/\(gQ X.K H p ys\/kT X.K H p ys)/\∀l,H l=none->Q (.ref l) (cc H l (.lst ys))):=by
 intro B s G H xs Y Q I r h;obtain⟨p,ys,rfl,k,q⟩:=h;obtain⟨u,rfl,w⟩:=vals1 r;cases w;have f:∀(i:LV),aL ys i->ys.length≤sizeLine->∀(h':Heap) (c:Nat),(∀b o',s.heap.get? b=some o'->h'.get? b=some o') ->
   h'.get? s.heap.objs.size=some { cls:=.type "list",dict:=none,data:=.seq i.toArray c,slots:=#[] }->EP X B G Q (.ref s.heap.objs.size) { s with heap:=h' }:=fun i x z h' c m e=>
  ⟨.ref s.heap.objs.size,_,I.laid (t':=s.toks) m (Nat.le_refl _) (show ce X.prog X.w _ h' _ (.lst ys) from ⟨z,i,c,x,e⟩),rfl,q _ (I.hok.fresh (Nat.le_refl _))⟩
 rcases k with k | k
 .obtain⟨i,x,d,z⟩:=I.list k;have a:=x.length;obtain⟨o,v,t,n,hd⟩:=d.isList;exact call_list_seq p (.inl rfl) v t hd (fun h' c m e=>f i x z h' c m e) (by simp only [List.size_toArray] <;> lia)
 .obtain⟨i,x,d,z⟩:=I.tuple k;have a:=x.length;obtain⟨o,v,t,n,hd⟩:=d;exact call_list_seq p (.inr rfl) v t hd (fun h' c m e=>f i x z h' c m e) (by simp only [List.size_toArray] <;> lia)
theorem jR:c6 X (.type "tuple") (fun xs H Q=>∃p ys,xs=[.ref p]/\((gQ X.K H p ys/\∀l,H l=none->Q (.ref l) (cc H l (.tup ys)))\/(kT X.K H p ys/\Q (.ref p) H))):=by
 intro B s G H xs Y Q I r h;obtain⟨p,ys,rfl,h⟩:=h;obtain⟨u,rfl,t⟩:=vals1 r;cases t;rcases h with ⟨x,q⟩ | ⟨x,q⟩
 .obtain⟨i,n,a,z⟩:=I.list x;have f:=n.length;refine call_tuple_list a.isList (fun h' m=>?_) (by simp only [List.size_toArray] <;> lia);have k:Inv X B G H { s with heap:=h' }:=I.kept (t':=s.toks) m;have c:Inv X B G (cc H h'.objs.size (.tup ys)) { s with heap:=h'.push { cls:=.type "tuple",data:=.seq i.toArray } }:=
   k.laid (t':=s.toks) (fun b o e=>Heap.get?_push_of_some _ e) (Nat.le_refl _) (show ce X.prog X.w _ _ _ (.tup ys) from ⟨z,i,n,lG.new _ _⟩)
  exact⟨.ref h'.objs.size,_,c,rfl,q _ (k.hok.fresh (Nat.le_refl _))⟩
 .obtain⟨i,n,a,z⟩:=I.tuple x;exact call_tuple_same a ⟨.ref p,H,I,rfl,q⟩
noncomputable def Kr (K:FG) (T:String) (x:V) (H:Hp):Prop:=match x with
 | .str _=>T="str"
 | .int _=>T="int"
 | .ref p=>(T="list"/\∃xs,gQ K H p xs)\/(T="tuple"/\∃o,K.lookup p=some o/\o.cls=.type "tuple"/\o.dict=none) \/
   (T="dict"/\((∃j,H p=some (.dK j))\/∃j,H p=some (.dT j)))\/(T="set"/\∃S n,H p=some (.set S n))
 | _=>False
theorem CY (I:Inv X B G H s) (r:RelV x v) (ty:Kr X.K T x H) :
  s.TypeIs v T/\∀a,v=.ref a->∃b,s.heap.get? a=some b/\b.dict=none:=by
 cases x with
 | str z=>obtain⟨t,rfl⟩:=r;cases (show T="str" from ty);exact⟨typeIs_str s z t,fun _ e=>nomatch e⟩
 | int i=>obtain⟨t,rfl⟩:=r;cases (show T="int" from ty);exact⟨typeIs_int s i t,fun _ e=>nomatch e⟩
 | ref p=>
  cases r;rcases ty with ⟨rfl,xs,q⟩ | ⟨rfl,o,h,f,hd⟩ | ⟨rfl,h⟩ | ⟨rfl,S,n,h⟩
  .obtain⟨m,_,l,_⟩:=I.list q;refine⟨l.isList.typeIs,fun a e=>?_⟩;cases e;obtain⟨o,n,e,c,hd,_⟩:=l;exact⟨o,e,hd⟩
  .refine⟨⟨o,I.kIn p o h,f⟩,fun a e=>?_⟩;cases e;exact⟨o,I.kIn _ o h,hd⟩
  .have z:∃o,s.heap.get? p=some o/\o.ExactDict:=by
    rcases h with ⟨j,h⟩ | ⟨j,h⟩
    .obtain⟨_,_,_,_,o,_,_,e,ex,_⟩:=I.hok p _ h;exact⟨o,e,ex⟩
    .obtain⟨_,_,_,_,o,_,_,e,ex,_⟩:=I.hok p _ h;exact⟨o,e,ex⟩
   obtain⟨o,e,ex⟩:=z;refine⟨⟨o,e,ex.1⟩,fun a k=>?_⟩;cases k;exact⟨o,e,ex.2.1⟩
  .obtain⟨o,_,_,_,e,ex,_⟩:=I.hok p _ h;refine⟨⟨o,e,ex.1⟩,fun a k=>?_⟩;cases k;exact⟨o,e,ex.2.1⟩
 | _=>exact False.elim ty
noncomputable def Lj (K:FG) (T:String) (r:V->List V->Hp->VK->Prop) (to:TE) (t:TA):TE:=fun G H Q=>to G H fun x U=>Kr K T x U/\t G U fun xs H2=>r x xs H2 Q
variable {o e:Expr}{es:Ab}{to:TE}{t:TA}{name:Str}{apos cpos:Pos}{T id:String}{r:V->List V->Hp->VK->Prop}
theorem Cd (w:PlainAttrs T) (slot:Slot T name id) (y:typeOf (.builtin id)=pure (.type "method_descriptor")) (m:L3 X id r) (q:PE X o to) (c:PA X (e::es) t)
  (b:attributeBase o name X.env (eval o X.env)=eval o X.env:=by rfl)
  (f:((backTo cpos (starEach (e::es) X.env)).all (fun x=>!x.1) && (backToKw cpos (keywordEach [] X.env)).all (fun x=>x.1.isSome)
   && decide ((e::es).length+([]:List Keyword).length+(if ([]:List Keyword).isEmpty then 0 else 1) < 30))=true:=by rfl)
  (l:(apos.endLine == cpos.line)=true:=by rfl) (d:starEach (e::es) X.env=(false,eval e X.env)::starEach es X.env:=by rfl) (p:(backTo cpos (starEach es X.env)).any (·.1)=false:=by rfl) :
  PE X (.Call (.Attribute o name apos) (e::es) [] cpos) (Lj X.K T r to t):=by
 intro B s G H Q I h;refine wpAny_Call_method_late b f l rfl (cK (q B s G H _ I h) fun v j z=>?_);obtain⟨x,U,a,n,ty,u⟩:=z;obtain⟨J,h2⟩:=CY a n ty;refine⟨T,id,w,slot,y,J,h2,?_⟩;have A:=c cpos B j G U _ a u;rw [d] at A ⊢;refine Calls.callWith_builtin (by show (false || (backTo cpos (starEach es X.env)).any (·.1))=false;rw [p] <;> rfl) (Calls.evalArgs_plain ?_);exact cK A fun Y S z=>by obtain⟨F,H2,k,i,g⟩:=z;exact m B S G H2 x F v Y Q k n i g
end
noncomputable def K2 (X:Cx) (id:String) (r:V->List V->Hp->VK->Prop):Prop:=
 ∀(B:PN) (s:Shared) (G:St) (H:Hp) (x:V) (xs:List V) (v:Value) (Y:LV) (Q:VK),Inv X B G H s->RelV x v->aL xs Y->r x xs H Q ->
  wpAny (model X.prog X.w) X.A (call (.builtin id) (v::Y)) (EP X B G Q) X.xe s
theorem aL.one:∀{x:V}{Y:LV},aL [x] Y->∃u,Y=[u]/\RelV x u
 | _,_,.cons r .nil=>⟨_,rfl,r⟩
theorem aL.rep (h:aL xs Y):∀k:Nat,aL (List.replicate k xs).flatten (List.replicate k Y).flatten
 | 0=>.nil
 | k+1=>by rw [dq,dq,g8,g8];exact aL.append h (aL.rep h k)
theorem foldl_rep (i:LV):∀(k:Nat) (a:LV),
  List.foldl (fun x s=>x++s) a.toArray (List.replicate k i.toArray)=(a++(List.replicate k i).flatten).toArray
 | 0,a=>by simp
 | k+1,a=>by
  have e:a.toArray++i.toArray=(a++i).toArray:=by simp
  have h:(a++i)++(List.replicate k i).flatten=a++(List.replicate (k+1) i).flatten:=by rw [dq,g8,List.append_assoc]
  rw [<- h,<- foldl_rep i k (a++i),<- e,dq,gC]
section
variable {X:Cx}{B:PN}{G:St}{H:Hp}{s:Shared}{l b:Addr}{xs ys zs:List V}
theorem Inv.lset {i:LV}{t:Nat} (I:Inv X B G H s) (h:H l=some (.lst xs))
  (e:s.heap.get? l=some { cls:=.type "list",data:=.seq i.toArray n }) (a:f i.toArray=N.toArray) (v:aL ys N) (z:ys.length≤sizeLine) :
  Inv X B G (cc H l (.lst ys)) { s with heap:=s.heap.update l (Obj.mapSeq f),toks:=t }:=by
 have q:=PySem.IsL.update e f;rw [a] at q;refine I.write (x:=l) (e:=l) (by rw [h];exact trivial) (.inl rfl) (fun c u b k=>(Heap.get?_update_other s.heap (Obj.mapSeq f) (Ne.symm b)).trans k) ⟨_,q⟩ ?_;exact⟨z,N,_,v,q⟩
theorem Inv.lnew {t:Nat} (I:Inv X B G H s) (h:aL ys N) (z:ys.length≤sizeLine) :
  Inv X B G (cc H s.heap.objs.size (.lst ys)) { s with heap:=s.heap.push { cls:=.type "list",data:=.seq N.toArray },toks:=t }:=
 I.laid (fun _ _ q=>Heap.get?_push_of_some _ q) (Nat.le_refl _) ⟨z,N,0,h,Heap.get?_push_size _ rfl⟩
theorem Inv.fresh (I:Inv X B G H s):H s.heap.objs.size=none:=I.hok.fresh (Nat.le_refl _)
theorem Inv.lstM (I:Inv X B G H s) (h:H l=some (.lst xs)):xs.length≤sizeLine/\∃(i:LV) (n:Nat),aL xs i/\xs.length=i.length/\s.heap.get? l=some { cls:=.type "list",data:=.seq i.toArray n }:=by obtain⟨z,i,n,r,e⟩:=I.hok l _ h;exact⟨z,i,n,r,r.length,e⟩
theorem sr (h:n≤sizeLine):Builtin.List.listTooLong n=false:=by unfold Builtin.List.listTooLong;exact bq (by lia)
end
section
variable {X:Cx}
noncomputable def A0:V->List V->Hp->VK->Prop:=fun x v H Q=>∃l xs y,x=.ref l/\v=[y]/\H l=some (.lst xs)/\xs.length < sizeLine/\Q .non (cc H l (.lst (xs++[y])))
theorem o8:K2 X "list.append" A0:=by intro B s G H x t v Y Q I b f h;obtain⟨l,xs,y,rfl,rfl,a,m,q⟩:=h;cases b;obtain⟨u,rfl,k⟩:=f.one;obtain⟨z,i,n,r,c,e⟩:=I.lstM a;refine call_meets F.slot_list_append ⟨_,e,rfl⟩ F.entry_list_append (F.args_list_append_2 _ _) (PySem.list_append l i.toArray n u (by rw [List.size_toArray];lia)) ⟨e,?_⟩;refine⟨.non,_,I.lset (N:=i++[u]) a e (by simp) (r.append (.cons k .nil)) ?_,rfl,q⟩;rw [List.length_append,List.length_singleton];lia
noncomputable def AZ:V->List V->Hp->VK->Prop:=fun x v H Q=>∃l b xs zs,x=.ref l/\v=[.ref b]/\H l=some (.lst xs)/\H b=some (.lst zs)/\xs.length+zs.length≤sizeLine/\Q .non (cc H l (.lst (xs++zs)))
theorem w1:K2 X "list.extend" AZ:=by
 intro B s G H x K v Y Q I j g h;obtain⟨l,b,xs,zs,rfl,rfl,k,c,S,q⟩:=h;cases j;obtain⟨u,rfl,w⟩:=g.one;cases w;obtain⟨z,t,n,r,y,e⟩:=I.lstM k;obtain⟨P,i,p,d,m,f⟩:=I.lstM c;have a:t.toArray.size+i.toArray.size≤sizeLine:=by rw [List.size_toArray,List.size_toArray];lia
 have o:¬(!t.toArray.isEmpty && Builtin.List.listTooLong (t.toArray.size+i.toArray.size))=true:=by rw [sr a,Bool.and_false];exact bS
 refine call_meets F.slot_list_extend ⟨_,e,rfl⟩ F.entry_list_extend (F.args_list_extend_2 _ _)
  (AutoSeq1.list_extend_list_list_0 l t.toArray n b i.toArray p o (by rw [List.size_toArray];lia) (by lia)) ⟨e,f,?_⟩
 refine⟨.non,_,I.lset (N:=t++i) k e (by simp) (r.append d) ?_,rfl,q⟩;rw [List.length_append];lia
noncomputable def JK:R2:=fun x y H Q=>∃l b xs zs,x=.ref l/\y=.ref b/\H l=some (.lst xs)/\H b=some (.lst zs)/\xs.length+zs.length≤sizeLine/\∀p,H p=none->Q (.ref p) (cc H p (.lst (xs++zs)))
theorem DI:io X (binaryOp .Add) JK:=by
 intro B s G H x y v u Q I d w h;obtain⟨l,b,xs,zs,rfl,rfl,c,f,j,q⟩:=h;cases d;cases w;obtain⟨z,t,n,r,g,e⟩:=I.lstM c;obtain⟨S,i,o,p,m,a⟩:=I.lstM f;refine PySem.P.add_list e a ?_ (by rw [List.size_toArray,List.size_toArray];lia);have k:t.toArray++i.toArray=(t++i).toArray:=by simp
 rw [k];exact⟨.ref _,_,I.lnew (t:=s.toks) (r.append p) (by rw [List.length_append];lia),rfl,q _ I.fresh⟩
noncomputable def JF:R2:=fun x y H Q=>∃l k xs,x=.ref l/\y=.int k/\H l=some (.lst xs)/\-(2 ^ 63)≤k/\k < 2 ^ 63/\xs.length * k.toNat≤sizeLine /\
 ∀p,H p=none->Q (.ref p) (cc H p (.lst (List.replicate k.toNat xs).flatten))
theorem Bs (xs:List α) (k:Nat):(List.replicate k xs).flatten.length=k * xs.length:=by
 induction k with
 | zero=>simp
 | succ k i=>rw [dq,g8,List.length_append,i,Nat.succ_mul,Nat.add_comm]
theorem DD:io X (binaryOp .Mult) JF:=by
 intro B s G H x y v u Q I A C h;obtain⟨l,k,xs,rfl,rfl,K,J,h2,j,q⟩:=h;cases A;obtain⟨t,rfl⟩:=C;obtain⟨f,i,n,r,P,e⟩:=I.lstM K;have p:i.toArray.size * k.toNat≤sizeLine:=by rw [List.size_toArray,<- P];exact j
 have c:¬i.toArray.size * k.toNat > (2 ^ 63-1) / 8:=by
  have:(sizeLine:Nat)≤(2 ^ 63-1) / 8:=by decide
  lia
 have b:¬(!Builtin.List.listFitsIndex k)=true:=by rw [fitsIndex_both J h2];exact bS
 have o:¬Builtin.List.listTooLong (i.toArray.size * k.toNat)=true:=by rw [sr p];exact bS
 have w:List.foldl (fun d g=>d++g) #[] (List.replicate (if i.toArray.isEmpty=true then 0 else k.toNat) i.toArray)=(List.replicate k.toNat i).flatten.toArray:=by
  have S:∀m:Nat,List.foldl (fun d g=>d++g) #[] (List.replicate m i.toArray)=(List.replicate m i).flatten.toArray:=fun m=>by have:=foldl_rep i m [];rw [fu] at this;exact this
  rw [S];cases i with
  | nil=>simp
  | cons a D=>rw [if_neg (by simp)]
 refine wpAny_binaryOp_repeat_ref (T:="list") (U:="int") (by decide) ⟨_,e,rfl⟩ (fun z=>typeIs_int z k t) noFill_list_mul F.fills_int_mul F.slot_int_rmul repeat_list F.slot_int_index.lookup
  (call_meets F.slot_int_rmul (typeIs_int s k t) F.entry_int_rmul (F.args_int_rmul_2 _ _) (int___rmul___int_list k t l i.toArray n)
   ⟨e,rfl,⟨_,e,rfl⟩,call_meets F.slot_list_mul ⟨_,e,rfl⟩ F.entry_list_mul (F.args_list_mul_2 _ _) (AutoListH.list___mul___list_int_3 l i.toArray n k t b c o) ⟨e,?_⟩⟩)
 rw [w];exact⟨.ref _,_,I.lnew (t:=s.toks) (r.rep k.toNat) (by rw [Bs,mx];exact j),rfl,q _ I.fresh⟩
end
section
variable {κ:Type} [DecidableEq κ]
noncomputable def fL (j:List (κ×V)) (k:κ):Option V:=(j.find? fun v=>decide (v.1=k)).map (·.2)
noncomputable def putK (j:List (κ×V)) (k:κ) (v:V):List (κ×V):=
 if (j.any fun h=>decide (h.1=k))=true then j.map (fun h=>if h.1=k then (h.1,v) else h) else j++[(k,v)]
noncomputable def KW (j:List (κ×V)) (k:κ):List (κ×V):=j.filter fun v=>decide (v.1≠k)
theorem gE {p:κ×V}{r:List (κ×V)}{k:κ} (e:p.1=k):fL (p::r) k=some p.2:=by simp [fL,jb,e]
theorem fK {p:κ×V}{r:List (κ×V)}{k:κ} (e:¬p.1=k):fL (p::r) k=fL r k:=by simp [fL,jb,e]
theorem r9 (k:κ):∀j:List (κ×V),(j.any fun v=>decide (v.1=k))=(fL j k).isSome
 | []=>rfl
 | p::r=>by
  rw [gB];by_cases e:p.1=k
  .simp only [gE e,iq e,Bool.true_or,Option.isSome_some]
  .rw [fK e,bq e,Bool.false_or];exact r9 k r
theorem jn (j:List (κ×V)) (k:κ) (v:V):(putK j k v).length≤j.length+1:=by
 unfold putK;split
 .rw [b8];lia
 .rw [List.length_append,bc,List.length_nil];lia
theorem i7.isSome_eq (r:i7 o u):o.isSome=u.isSome:=by
 cases o with
 | none=>cases u with
  | none=>rfl
  | some _=>exact (show False from r).elim
 | some _=>cases u with
  | none=>exact (show False from r).elim
  | some _=>rfl
theorem i7.getD (r:i7 o u) (h:RelV d N):RelV (o.getD d) (u.getD N):=by
 cases o with
 | none=>cases u with
  | none=>exact h
  | some _=>exact (show False from r).elim
 | some _=>cases u with
  | none=>exact (show False from r).elim
  | some _=>exact r
theorem KV.val {j:List (κ×V)}{v:List (κ×Value)} (r:KV j v) (k:κ):i7 (fL j k) (valueAt v k):=by
 unfold KV at r;induction r with
 | nil=>exact True.intro
 | @cons p q ps qs h t i=>
  obtain⟨J,h2⟩:=h;by_cases e:p.1=k
  .have x:q.1=k:=J.symm.trans e;have b:valueAt (q::qs) k=some q.2:=by simp [valueAt,jb,x]
   rw [gE e,b];exact h2
  .have x:¬q.1=k:=fun z=>e (J.trans z);have b:valueAt (q::qs) k=valueAt qs k:=by simp [valueAt,jb,x]
   rw [fK e,b];exact i
theorem KV.any (r:KV j N) (k:κ):(j.any fun v=>decide (v.1=k))=N.any fun v=>decide (v.1=k):=by
 unfold KV at r;induction r with
 | nil=>rfl
 | cons h t i=>rw [gB,gB,i,h.1]
theorem KV.repl (r:KV j N) (k:κ) (x:RelV y u) :
  KV (j.map fun v=>if v.1=k then (v.1,y) else v) (N.map fun v=>if v.1=k then (v.1,u) else v):=by
 unfold KV at r ⊢;induction r with
 | nil=>exact .nil
 | @cons p q ps qs h t i=>
  rw [List.map_cons,List.map_cons];refine .cons ?_ i;obtain⟨J,h2⟩:=h;by_cases e:p.1=k
  .rw [if_pos e,if_pos (J.symm.trans e)];exact⟨J,x⟩
  .rw [if_neg e,if_neg (fun z=>e (J.trans z))];exact⟨J,h2⟩
theorem KV.put (r:KV j N) (k:κ) (h:RelV y u):KV (putK j k y) (stored N k u):=by
 unfold putK stored;rw [r.any k];by_cases e:(N.any fun v=>decide (v.1=k))=true
 .rw [if_pos e,if_pos e];exact r.repl k h
 .rw [if_neg e,if_neg e];exact Paired.snoc r ⟨rfl,h⟩
theorem KV.length (r:KV j N):j.length=N.length:=Paired.length r
end
variable {w:World}{u:Value}
theorem lO (r:RelV (kV k) u):(bN P w).is k u=true:=by
 cases k with
 | inl i=>obtain⟨t,e⟩:=(show ∃t,u=Value.int i t from r);subst e;exact sD P w i t
 | inr x=>obtain⟨t,e⟩:=(show ∃t,u=Value.str x t from r);subst e;exact sC P w x t
theorem pb:∀{ks:List bz}{Y:LV},aL (ks.map kV) Y->ItemsAre (bN P w) ks Y
 | [],_,r=>by rw [gA] at r;cases r;exact .nil
 | k::ks,_,r=>by
  rw [List.map_cons] at r;cases r with
  | cons h t=>exact .cons (lO h) (pb t)
noncomputable abbrev KT (H:Hp):List (List bz×V)->List (List bz×Addr×Value)->Prop:=Paired fun p q=>p.1=q.1/\H q.2.1=some (.tup (p.1.map kV))/\RelV p.2 q.2.2
theorem KT.val {H:Hp}{j:List (List bz×V)}{xs:List (List bz×Addr×Value)} (r:KT H j xs) (k:List bz):i7 (fL j k) ((atKey xs k).map (·.2)):=by
 induction r with
 | nil=>exact True.intro
 | @cons p q ps qs h t i=>
  obtain⟨J,_,h2⟩:=h;by_cases e:p.1=k
  .have x:q.1=k:=J.symm.trans e;have b:atKey (q::qs) k=some q.2:=by simp [atKey,jb,x]
   rw [gE e,b];exact h2
  .have x:¬q.1=k:=fun z=>e (J.trans z);have b:atKey (q::qs) k=atKey qs k:=by simp [atKey,jb,x]
   rw [fK e,b];exact i
variable {H:Hp}{j:List (List bz×V)}{xs:List (List bz×Addr×Value)}{y:V}
theorem KT.repl (r:KT H j xs) (k:List bz) (a:RelV y u) :
  KT H (j.map fun v=>if v.1=k then (v.1,y) else v) (xs.map (putAt k u)):=by
 induction r with
 | nil=>exact .nil
 | @cons p q ps qs h t i=>
  rw [List.map_cons,List.map_cons];refine .cons ?_ i;obtain⟨J,h2,x⟩:=h;unfold putAt;by_cases e:p.1=k
  .rw [if_pos e,if_pos (J.symm.trans e)];exact⟨J,h2,a⟩
  .rw [if_neg e,if_neg (fun z=>e (J.trans z))];exact⟨J,h2,x⟩
theorem KT.put (r:KT H j xs) (k:List bz) (x:H b=some (.tup (k.map kV))) (h:RelV y u) :
  KT H (putK j k y) (storedH xs k b u):=by
 have e:(j.any fun v=>decide (v.1=k))=(atKey xs k).isSome:=by rw [r9,(r.val k).isSome_eq,Option.isSome_map]
 unfold putK storedH;rw [e];by_cases q:(atKey xs k).isSome=true
 .rw [if_pos q,if_pos q];exact r.repl k h
 .rw [if_neg q,if_neg q];exact Paired.snoc r ⟨rfl,x,h⟩
theorem KT.keeps (r:KT H j xs) (h:∀b ys,H b=some (.tup ys)->H' b=some (.tup ys)):KT H' j xs:=
 Paired.mapP r fun _ _ z=>⟨z.1,h _ _ z.2.1,z.2.2⟩
section
variable {P:Program}{w:World}{H:Hp}{h:Heap}{a:Addr}
theorem Ca {u:HO} (ok:jM P w H h) (e:Rd H a u):ce P w H h a u:=e.ok ok
theorem pi {j:List (bz×V)} (ok:jM P w H h) (e:Rd H a (.dK j)):j.length≤sizeLine/\(a == sysModules)=false/\∃v,KV j v/\h.DictOf (bN P w) a v:=
 show ce P w H h a (.dK j) from Ca ok e
theorem wc {j:List (bz×V)} (ok:jM P w H h) (e:H a=some (.dK j)):j.length≤sizeLine/\(a == sysModules)=false/\∃v,KV j v/\h.DictOf (bN P w) a v:=pi ok (.inl e)
theorem lj (ok:jM P w H h) (e:H a=some (.tup (ks.map kV))):(tupleKind (bN P w)).is h ks a:=by obtain⟨_,i,r,o,J,⟨h2,n,x⟩,_⟩:=(show ce P w H h a (.tup (ks.map kV)) from ok a _ e);exact⟨o,i.toArray,n,J,h2,x,by simpa using pb r⟩
theorem ph (ok:jM P w H h) (e:Rd H a (.dT j)):j.length≤sizeLine/\(a == sysModules)=false /\
  ∃xs,KT H j xs/\h.DictOfH (tupleKind (bN P w)) a xs:=by
 obtain⟨z,y,xs,r,o,es,k,J,h2,f,b,c⟩:=(show ce P w H h a (.dT j) from Ca ok e);refine⟨z,y,xs,r,o,es,k,J,h2,f,b,fun x s=>?_,c⟩;have all:∀{l:List (List bz×V)}{m:List (List bz×Addr×Value)},KT H l m->∀x ∈ m,(tupleKind (bN P w)).is h x.1 x.2.1:=by
  intro l m q;induction q with
  | nil=>intro x s;exact nomatch s
  | @cons p q ps qs n t i=>
   intro x s;rcases bj.mp s with e | s
   .subst e;exact lj ok (by rw [<- n.1];exact n.2.1)
   .exact i x s
 exact all r x s
theorem Hk (ok:jM P w H h) (e:H a=some (.dT j)):j.length≤sizeLine/\(a == sysModules)=false /\
  ∃xs,KT H j xs/\h.DictOfH (tupleKind (bN P w)) a xs:=ph ok (.inl e)
end
noncomputable def iX (H:Hp) (a:Addr) (y:V) (r:Option V):Prop:=
 (∃j k,Rd H a (.dK j)/\y=kV k/\r=fL j k)\/∃j k b,Rd H a (.dT j)/\y=.ref b/\H b=some (.tup (k.map kV))/\r=fL j k
noncomputable def tT (H:Hp) (a:Addr) (y v:V) (H':Hp):Prop:=
 (∃j k,H a=some (.dK j)/\y=kV k/\j.length < sizeLine/\H'=cc H a (.dK (putK j k v))) \/
 ∃j k b,H a=some (.dT j)/\y=.ref b/\H b=some (.tup (k.map kV))/\j.length < sizeLine/\H'=cc H a (.dT (putK j k v))
theorem iX.k {H:Hp}{a:Addr}{j:List (bz×V)}{k:bz} (e:H a=some (.dK j)):iX H a (kV k) (fL j k):=.inl ⟨j,k,.inl e,rfl,rfl⟩
theorem iX.t {H:Hp}{a b:Addr}{j:List (List bz×V)}{k:List bz} (e:H a=some (.dT j)) (h:H b=some (.tup (k.map kV))):iX H a (.ref b) (fL j k):=.inr ⟨j,k,b,.inl e,rfl,h,rfl⟩
theorem tT.k {H:Hp}{a:Addr}{j:List (bz×V)}{k:bz}{v:V} (e:H a=some (.dK j)) (h:j.length < sizeLine):tT H a (kV k) v (cc H a (.dK (putK j k v))):=.inl ⟨j,k,e,rfl,h,rfl⟩
theorem tT.t {H:Hp}{a b:Addr}{j:List (List bz×V)}{k:List bz}{v:V} (e:H a=some (.dT j)) (h:H b=some (.tup (k.map kV))) (l:j.length < sizeLine) :
  tT H a (.ref b) v (cc H a (.dT (putK j k v))):=.inr ⟨j,k,b,e,rfl,h,l,rfl⟩
section
variable {X:Cx}{B:PN}{G:St}{H:Hp}{s:Shared}{a:Addr}{y v:V}{u r:Value}{o:Option V}{A:Around}{E:VP}
theorem Inv.big (I:Inv X B G H s):sysModules < s.heap.objs.size:=by have h:mainGlobals < s.heap.objs.size:=(I.mod.glob.keeps I.bk).lt;exact kW (by decide) h
theorem pj (i:A.units+1 < cLine) (I:Inv X B G H s) (g:iX H a y (some v)) (m:RelV y u) (h:∀n z,Inv X B G H z->RelV v n->Q n z) :
  wpAny (model X.prog X.w) A (getItem (.ref a) u) Q E s:=by
 rcases g with ⟨j,k,e,f,l⟩ | ⟨j,k,b,e,f,t,l⟩
 .subst f;obtain⟨x,hd,S,r,d⟩:=pi I.hok e;obtain⟨n,hw,w⟩:=i7.some_of (v:=v) (o:=valueAt S k) (by rw [l];exact r.val k);exact wpAny_getItem_of (lO m) d.mapOf hw (h n _ (I.tok _) w)
 .subst f;cases (show u=Value.ref b from m);obtain⟨x,hd,xs,r,d⟩:=ph I.hok e;obtain⟨n,hw,w⟩:=i7.some_of (v:=v) (o:=(atKey xs k).map (·.2)) (by rw [l];exact r.val k);obtain⟨p,q,c⟩:=jg.mp hw;refine wpAny_getItem_heap (mS i) (lj I.hok t) d q ?_;rw [c];exact h n _ (I.tok _) w
theorem J' (m:A.units+1 < cLine) (I:Inv X B G H s) (g:iX H a y o) (f:RelV y u) (h:∀z,Inv X B G H z->Q (.bool o.isSome) z) :
  wpAny (model X.prog X.w) A (compareOp .In u (.ref a)) Q E s:=by
 rcases g with ⟨j,k,e,n,l⟩ | ⟨j,k,b,e,n,c,l⟩
 .subst n;obtain⟨x,hd,v,r,d⟩:=pi I.hok e;refine wpAny_in_of (lO f) hd d.mapOf ?_;rw [<- (r.val k).isSome_eq,<- l];exact h _ (I.tok _)
 .subst n;cases (show u=Value.ref b from f);obtain⟨x,hd,xs,r,d⟩:=ph I.hok e;refine wpAny_in_heap (mS m) (lj I.hok c) hd d ?_;have q:=(r.val k).isSome_eq;rw [Option.isSome_map] at q;rw [<- q,<- l];exact h _ (I.tok _)
theorem qV {t:Nat} (I:Inv X B G H s) (m:HJ (H a)) (f:Heap.SameBut a s.heap h') (k:∃q,h'.get? a=some q) (n:ce X.prog X.w (cc H a N) h' a N) :
  Inv X B G (cc H a N) { s with heap:=h',toks:=t }:=
 I.write (x:=a) (e:=a) m (.inl rfl) (fun b q h z=>(f.2 b h).trans z) k n
theorem zR {P:Program}{w:World}{H':Hp}{h':Heap}{j:List (bz×V)}{v:List (bz×Value)} (z:j.length≤sizeLine) (hd:(a == sysModules)=false) (r:KV j v) (d:h'.DictOf (bN P w) a v) :
  ce P w H' h' a (.dK j):=⟨z,hd,v,r,d⟩
theorem xE {H':Hp}{Q:Unit->Shared->Prop} (N:A.units+1 < cLine) (I:Inv X B G H s) (g:tT H a y v H') (P:RelV y u) (K:RelV v r) (h:∀z,Inv X B G H' z->Q () z) :
  wpAny (model X.prog X.w) A (setItem (.ref a) u r) Q E s:=by
 rcases g with ⟨j,k,e,p,l,t⟩ | ⟨j,k,b,e,p,S,l,t⟩
 .subst p t;obtain⟨x,hd,O,n,m⟩:=wc I.hok e;have o:O.length≤sizeLine:=by rw [<- n.length];exact x
  have w:(putK j k v).length≤sizeLine:=by have:=jn j k v;lia
  refine wpAny_setItem_pairs (hsz:=o) (lO P) m fun h' d i=>h _ ?_;have M:∃q,h'.get? a=some q:=let ⟨q,_,_,f,_⟩:=d;⟨q,f⟩
  exact qV I (by rw [e];exact True.intro) i M (zR w hd (n.put k K) d)
 .subst p t;cases (show u=Value.ref b from P);obtain⟨x,hd,xs,n,m⟩:=Hk I.hok e;have o:xs.length≤sizeLine:=by rw [<- Paired.length n];exact x
  have w:(putK j k v).length≤sizeLine:=by have:=jn j k v;lia
  refine wpAny_setItem_heap (hsz:=o) (mS N) (lj I.hok S) m fun h' d i=>h _ ?_;obtain⟨q,es,C,f,h2,D,J,_,L⟩:=d;refine qV I (by rw [e];exact True.intro) i ⟨q,f⟩ ⟨w,hd,_,(n.put k S K).keeps fun c ys F=>?_,q,es,C,f,h2,D,J,L⟩;rw [am (GL F e (fun x=>nomatch x))];exact F
end
noncomputable def Gc (td ty tv:TE):TS:=fun D G H=>tv G H fun v U=>td G U fun x H2=>ty G H2 fun y e=>∃a h,x=.ref a/\tT e a y v h/\D.nx G h
section
variable {X:Cx}{o i e value:Expr}{O pos' tpos:Pos}{td ty tv:TE}
theorem vA (t:X.A.units+1 < cLine) (c:PE X o td) (q:PE X i ty) (p:PE X value tv) (m:swapsWith value (some (.Subscript o i pos')) O.line X.env=pure false) :
  PS X (.Assign [.Subscript o i pos'] value O) (Gc td ty tv):=by
 intro B s G H D I h;refine wpAny_Assign_Subscript (cK (p B s G H _ I h) fun r K ⟨v,U,n,l,d⟩=>cK (c B K G U _ n d) fun u P ⟨x,H2,k,S,w⟩=>cK (q B P G H2 _ k w) fun C E z=>?_) m;obtain⟨y,A,f,F,a,e,ex,g,j⟩:=z;subst ex;obtain rfl:u=Value.ref a:=S;exact xE t f g F l fun J b=>⟨G,e,b,j⟩
end
theorem zS (h:Heap) (b:sysModules < h.objs.size):ce P w H (h.push { cls:=.type "dict",data:=.dict #[] }) h.objs.size (.dK []):=
 ⟨Nat.zero_le _,j4.mpr (Ne.symm (bo b)),[],.nil,Heap.DictOf.new h⟩
theorem zQ (h:Heap) (b:sysModules < h.objs.size):ce P w H (h.push { cls:=.type "dict",data:=.dict #[] }) h.objs.size (.dT []):=
 ⟨Nat.zero_le _,j4.mpr (Ne.symm (bo b)),[],.nil,_,#[],0,Heap.get?_push_size _ rfl,⟨rfl,rfl,rfl⟩,rfl,rfl,List.nodup_nil⟩
noncomputable def C5:TE:=fun _ H Q=>∀p,H p=none->Q (.ref p) (cc H p (.dK []))
noncomputable def C4:TE:=fun _ H Q=>∀p,H p=none->Q (.ref p) (cc H p (.dT []))
section
variable {X:Cx}{O:Pos}
theorem yV:PE X (.Dict [] [] O) C5:=fun B s G H Q I h=>
 wpAny_Dict_empty ⟨.ref s.heap.objs.size,_,I.laid (a:=s.heap.objs.size) (o:=.dK []) (t':=s.toks) (fun _ _ q=>Heap.get?_push_of_some _ q) (Nat.le_refl _) (zS s.heap I.big),rfl,h _ (I.hok.fresh (Nat.le_refl _))⟩
theorem yU:PE X (.Dict [] [] O) C4:=fun B s G H Q I h=>
 wpAny_Dict_empty ⟨.ref s.heap.objs.size,_,I.laid (a:=s.heap.objs.size) (o:=.dT []) (t':=s.toks) (fun _ _ q=>Heap.get?_push_of_some _ q) (Nat.le_refl _) (zQ s.heap I.big),rfl,h _ (I.hok.fresh (Nat.le_refl _))⟩
end
noncomputable abbrev VV:List (V×V)->List (Value×Value)->Prop:=Paired fun p q=>RelV p.1 q.1/\RelV p.2 q.2
structure M1 (X:Cx) (o:Expr) (m:Str) (apos:Pos) (e:Expr) (cpos:Pos):Prop where
 base:attributeBase o m X.env (eval o X.env)=eval o X.env
 few:((backTo cpos (starEach [e] X.env)).all (fun x=>!x.1) && (backToKw cpos (keywordEach [] X.env)).all (fun x=>x.1.isSome)
  && decide (([e]:Ab).length+([]:List Keyword).length+(if ([]:List Keyword).isEmpty then 0 else 1) < 30))=true
 line:(apos.endLine == cpos.line)=true
 trees:backTo cpos (starEach [e] X.env)=[(false,eval e X.env)]
structure M2 (X:Cx) (o:Expr) (m:Str) (apos:Pos) (e f:Expr) (cpos:Pos):Prop where
 base:attributeBase o m X.env (eval o X.env)=eval o X.env
 few:((backTo cpos (starEach [e,f] X.env)).all (fun x=>!x.1) && (backToKw cpos (keywordEach [] X.env)).all (fun x=>x.1.isSome)
  && decide (([e,f]:Ab).length+([]:List Keyword).length+(if ([]:List Keyword).isEmpty then 0 else 1) < 30))=true
 line:(apos.endLine == cpos.line)=true
 trees:backTo cpos (starEach [e,f] X.env)=[(false,eval e X.env),(false,eval f X.env)]
noncomputable def Kl (H:Hp) (a:Addr):Prop:=(∃j,Rd H a (.dK j))\/∃j,Rd H a (.dT j)
variable {B:PN}{G:St}{s:Shared}
theorem uH (I:Inv X B G H s) (d:Kl H a) :
  s.TypeIs (.ref a) "dict"/\(∀b,Value.ref a=.ref b->∃o,s.heap.get? b=some o/\o.dict=none)/\(a == sysModules)=false:=by
 rcases d with ⟨j,e⟩ | ⟨j,e⟩
 .obtain⟨_,hd,v,_,h⟩:=pi I.hok e;refine⟨h.typeIs,fun b q=>?_,hd⟩;cases q;obtain⟨o,_,_,J,h2,_⟩:=h;exact⟨o,J,h2.2.1⟩
 .obtain⟨_,hd,xs,_,h⟩:=ph I.hok e;refine⟨h.typeIs,fun b q=>?_,hd⟩;cases q;obtain⟨o,_,_,J,h2,_⟩:=h;exact⟨o,J,h2.2.1⟩
section
variable {X:Cx}{B:PN}{G:St}{H:Hp}{s:Shared}{a:Addr}{y d:V}{u r:Value}{o:Option V}{A:Around}{E:VP}
theorem Eu (m:A.units+1 < cLine) (I:Inv X B G H s) (g:iX H a y o) (f:RelV y u) (h:∀w z,Inv X B G H z->RelV (o.getD .non) w->Q w z) :
  wpAny (model X.prog X.w) A (call (.builtin "dict.get") [.ref a,u]) Q E s:=by
 rcases g with ⟨j,k,e,n,l⟩ | ⟨j,k,b,e,n,c,l⟩
 .subst n;obtain⟨x,hd,v,r,d⟩:=pi I.hok e;refine km kZ d.typeIs pS (PySem.F.args_dict_get_2 _ _) (meets_dict_get (bN X.prog X.w) a (lO f) hd) ⟨_,d.mapOf,h _ _ (I.tok _) ?_⟩;rw [l];exact (r.val k).getD rfl
 .subst n;cases (show u=Value.ref b from f);obtain⟨x,hd,xs,r,d⟩:=ph I.hok e;refine km kZ d.typeIs pS (PySem.F.args_dict_get_2 _ _) (meetsH_dict_get (tupleKind (bN X.prog X.w)) a b hd) ⟨mS m,k,xs,lj I.hok c,d,h _ _ (I.tok _) ?_⟩;rw [l];exact (r.val k).getD rfl
theorem Et (q:A.units+1 < cLine) (I:Inv X B G H s) (g:iX H a y o) (t:RelV y u) (m:RelV d r) (h:∀w z,Inv X B G H z->RelV (o.getD d) w->Q w z) :
  wpAny (model X.prog X.w) A (call (.builtin "dict.get") [.ref a,u,r]) Q E s:=by
 rcases g with ⟨j,k,e,c,l⟩ | ⟨j,k,b,e,c,p,l⟩
 .subst c;obtain⟨x,hd,v,n,f⟩:=pi I.hok e;refine km kZ f.typeIs pS (PySem.F.args_dict_get_3 _ _ _) (meets_dict_get_default (bN X.prog X.w) a (lO t) hd r) ⟨_,f.mapOf,h _ _ (I.tok _) ?_⟩;rw [l];exact (n.val k).getD m
 .subst c;cases (show u=Value.ref b from t);obtain⟨x,hd,xs,n,f⟩:=ph I.hok e;refine km kZ f.typeIs pS (PySem.F.args_dict_get_3 _ _ _) (meetsH_dict_get_default (tupleKind (bN X.prog X.w)) a b hd r) ⟨mS q,k,xs,lj I.hok p,f,h _ _ (I.tok _) ?_⟩;rw [l];exact (n.val k).getD m
end
noncomputable def C7 (td ty:TE):TE:=fun G H Q=>td G H fun x U=>∃a,x=.ref a/\Kl U a/\ty G U fun y H2=>∃o,iX H2 a y o/\Q (o.getD .non) H2
noncomputable def C6 (td ty tx:TE):TE:=fun G H Q=>td G H fun x U=>∃a,x=.ref a/\Kl U a/\ty G U fun y H2=>tx G H2 fun z h=>∃o,iX h a y o/\Q (o.getD z) h
section
variable {X:Cx}{o e f:Expr}{apos cpos:Pos}{td ty tx:TE}
theorem yX (t:X.A.units+1 < cLine) (c:PE X o td) (b:PE X e ty) (m:M1 X o "get" apos e cpos):PE X (.Call (.Attribute o "get" apos) [e] [] cpos) (C7 td ty):=by intro B s G H Q I h;refine wpAny_Call_method m.base m.few m.line t8 kZ PySem.F.type_dict_get (cK (c B s G H _ I h) fun u i z=>?_);obtain⟨x,U,n,v,a,ex,d,q⟩:=z;subst ex;obtain rfl:u=Value.ref a:=v;obtain⟨j,l,_⟩:=uH n d;refine⟨j,l,?_⟩;rw [m.trees];refine Calls.callWith_builtin rfl (Calls.evalArgs_plain (Calls.spliced_cons (cK (b B i G U _ n q) fun S K ⟨y,H2,k,w,F,g,p⟩=>j1 ?_)));exact Eu t k g w fun A P f r=>⟨_,H2,f,r,p⟩
theorem yW (w:X.A.units+1 < cLine) (v:PE X o td) (p:PE X e ty) (q:PE X f tx) (m:M2 X o "get" apos e f cpos):PE X (.Call (.Attribute o "get" apos) [e,f] [] cpos) (C6 td ty tx):=by
 intro B s G H Q I h;refine wpAny_Call_method m.base m.few m.line t8 kZ PySem.F.type_dict_get (cK (v B s G H _ I h) fun u A i=>?_);obtain⟨x,U,n,F,a,ex,d,j⟩:=i;subst ex;obtain rfl:u=Value.ref a:=F;obtain⟨D,E,_⟩:=uH n d;refine⟨D,E,?_⟩;rw [m.trees];refine Calls.callWith_builtin rfl (Calls.evalArgs_plain (Calls.spliced_cons (cK (p B A G U _ n j) fun L C ⟨y,H2,b,K,l⟩=>
  Calls.spliced_cons (cK (q B C G H2 _ b l) fun J N ⟨z,k,c,P,M,g,S⟩=>j1 ?_))))
 exact Et w c g K P fun R O t r=>⟨_,k,t,r,S⟩
end
end L2
namespace Att
open PySem PySem.W PySem.Calls PyProof.Rows
theorem ma:∀(s:List Int) (v:LV),WellAll P h v (s.map WData.int)->IntsAre v s:=by
 intro s;induction s with
 | nil=>intro v w;rw [gA] at w;cases w;exact .nil
 | cons n s i=>
  intro v w;rw [List.map_cons] at w;cases w with
  | cons a b=>cases a;exact .cons _ _ (i _ b)
theorem wQ {l:OpenLaw} (t:l.most=some n)
  (p:l.row.toRowW.claim.pre N=true) (w:WellAll P h vals N) :
  ∃a v s,vals=[Value.ref a]/\N=[WData.list (s.map WData.int)]/\h.get? a=some { cls:=.type "list",data:=.seq v.toArray }/\IntsAre v s/\s.length≤n:=by
 have b:WShape.hasAll [] N [.list .int]=true:=(pre_splitW p).1;have c:l.pre.holds [] { args:=N }=true:=(pre_splitW p).2;obtain⟨d,r,rfl,J,h2⟩:=hasAllW_cons b;obtain rfl:=hasAllW_nil h2;obtain⟨xs,rfl,m⟩:=hasW_list J;obtain⟨s,rfl⟩:=items_int m;have e:s.length≤n:=by
  unfold OpenLaw.pre at c;have k:(WTm.not (.lt (.lit (.int (n:Int))) (.len (.arg 0)))).holds [] { args:=[.list (s.map .int)] }=true:=by have k:=(holds_andW c).1;rw [t] at k;exact k
  have f:=condW_of k (w_not (w_lt w_lit (w_len_list (w_arg rfl))));rw [b8] at f;refine Nat.le_of_not_lt fun q=>?_;have u:(n:Int) < ((s.length:Nat):Int):=by lia
  first
   | (rw [iq u] at f;exact absurd f (by decide))
   | (simp at f;lia)
 cases w with
 | cons g i=>
  cases i;cases g with
  | list o x=>exact⟨_,_,s,rfl,rfl,o,ma s _ x,e⟩
theorem wT (l:OpenLaw) (a:List WData):l.row.toRowW.claim.post a (.bool true) a=true:=
 postW_of (r:=l.row.toRowW) (X:=(true == true))
  (show WShape.has [] (.bool true) .bool=true by first | rfl | decide | simp [WShape.has,WShape.arms,WShape.armsAll])
  (show (WTm.eq .res (.lit (.bool true))).value [] { args:=a,res:=some (.bool true),after:=a }=some (.bool (true == true)) from w_eq_bool (w_res rfl) w_lit) rfl
theorem attach_call {l:OpenLaw}
  (E:l.most=some n) (q:d.params.defaults=[])
  (call:∀(w:World) (h s:Shared) (mg j:SV) (x:Addr) (o:Obj) (y k c:Value) (a:Addr) (v:LV) (m:List Int),
   Ground N loose [] XP w h mg j s.heap->YP w s.heap ->
   s.heap.get? x=some o->o.data=.func (docDef d.name d.params d.body d.scope y k c)->s.heap.CodeRec k d.name->mg d.name=some (.ref x) ->
   s.heap.get? a=some { cls:=.type "list",data:=.seq v.toArray }->IntsAre v m->m.length≤n->s.gens=#[] ->
   codeAny (model l.prog w) callerA (.call (.ref x) ⟨[.ref a],[]⟩) (fun r z=>r=.ok (.ret (.bool true))/\OldK s.heap z.heap/\z.os=s.os/\AllBare z.gens) s) :
  WalkO N loose XP YP l.row.toRowW d [] (fun f v=>PySem.call f v):=by
 intro w h s mg j G Y x o y k c V kV I hd t D g A H F M p S L u B;obtain rfl:V=.none:=Dflts.none D q;obtain rfl:kV=.none:=Dflts.noKw D;obtain⟨a,v,m,rfl,rfl,b,i,e⟩:=wQ E p u;refine enter_call (codeAny_mono (call w h s mg j x o y k c a v m G Y I (fd_plain hd) t g b i e A) fun r z J=>?_);obtain⟨rfl,h2,K,P⟩:=J;exact⟨.inl ⟨.bool true,.bool true,[],rfl,fun _=>rfl,.bool true,wT l _,fun _=>⟨List.Pairwise.nil,fun _ C=>(nomatch C)⟩⟩,h2,K,P⟩
end Att
namespace L2
open PySem PySem.Spec PyProof.Rows
theorem oT:∀{v:LV}{s:List Int},IntsAre v s->aL (s.map V.int) v
 | _,_,.nil=>.nil
 | _,_,.cons n t h=>.cons ⟨t,rfl⟩ (oT h)
noncomputable def xS (H:Hp):Prop:=∀b,H b=none\/∃o xs,H b=some (.frz o (.lst xs))
theorem zi {P:Program}{w:World}{K:FG}{mg W:SV}{CX:xT}{k:Nat}{Q a:Addr}{fd:FuncData}{x:Str}{sp:Sp}{t:Shared}{y:LV}{L:List Int}
  (Z:K.In t.heap) (D:t.heap.Ns mainGlobals mg) (g:t.heap.Ns builtinsNs W) (R:∀x:Str,x≠"__name__"->W x=bootBuiltins x) (C:t.heap.NoLimit) (hg:t.gens=#[])
  (N:t.heap.get? a=some { cls:=.type "list",data:=.seq y.toArray }) (q:IntsAre y L) (hl:L.length≤sizeLine) (hr:Room k callerA)
  (F:∀base:Heap,K.In base->base.Ns mainGlobals mg->FnOk P w K mg base CX k Q fd [x] sp) (l:∀(s:Shared) (u:Value),BindsTo s fd ⟨[u],[]⟩ [(x,u)])
  (U:∀H:Hp,xS H->gQ K H a (L.map V.int)->sp [.ref a] H (fun v _=>v=.bl true) fun _ _ _=>False)
  (X:∀H e z,CX [] H t (fun _ _ _=>False) e z->False) :
  codeAny (model P w) callerA (.call (.ref Q) ⟨[.ref a],[]⟩) (fun r z=>r=.ok (.ret (.bool true))/\OldK t.heap z.heap/\z.os=t.os/\AllBare z.gens) t:=by
 have rv:=oT q;have I:=q.length;have j:∀H:Hp,xS H->gQ K H a (L.map V.int)->jM P w H t.heap->(∀b,H b≠none->b=a)->(H a≠none->K.lookup a=none) ->
   codeAny (model P w) callerA (.call (.ref Q) ⟨[.ref a],[]⟩) (fun r z=>r=.ok (.ret (.bool true))/\OldK t.heap z.heap/\z.os=t.os/\AllBare z.gens) t:=by
  intro H hO hS E hA hK;have p:∀{b:Addr}{o:Obj},t.heap.get? b=some o->H b=none->(qJ t.heap H).get? b=some o:=fun e n=>zE e n
  have Y:∀{b:Addr}{o:Obj}{es:Array DictEntry}{A:Nat},t.heap.get? b=some o->o.data=.dict es A->H b=none:=fun {b o es A} e d=>by
   cases f:H b with
   | none=>rfl
   | some u=>have O:b=a:=hA b (by rw [f];simp);subst O;rw [N] at e;cases e;have d':Data.seq y.toArray _=Data.dict es A:=d;cases d'
  have i:∀{b:Addr}{m:SV},t.heap.Ns b m->(qJ t.heap H).Ns b m:=fun {b m} ⟨o,es,A,e,d,r⟩=>⟨o,es,A,p e (Y e d),d,r⟩;have B:K.In (qJ t.heap H):=fun b o e=>p (Z b o e) (by
   cases f:H b with
   | none=>rfl
   | some u=>have O:b=a:=hA b (by rw [f];simp);subst O;rw [hK (by rw [f];simp)] at e;cases e)
  have hM:Mod K mg (qJ t.heap H):=⟨B,i D,⟨W,i g,R⟩,let ⟨mc,J,h2⟩:=C;⟨mc,i J,h2⟩⟩;have e0:Env0 P w K mg (qJ t.heap H) callerA [] t H:=⟨rfl,hM,fun b o e=>Bm e,Nat.le_of_eq (xl _ _),trivial,fun b g=>absurd (show b ∈ ([]:List Addr) from g) (by simp),E,.of_eq hg⟩;refine codeAny_mono ((F _ B (i D)).run callerA [] t H ⟨[.ref a],[]⟩ [.ref a] [.ref a] _ _ hr e0 (l t (.ref a)) (.cons rfl .nil) (U H hO hS)) fun r z h=>?_;cases r with
  | error e=>exact (X H e z h).elim
  | ok fl=>
   cases fl with
   | next=>exact False.elim h
   | brk=>exact False.elim h
   | cont=>exact False.elim h
   | ret u=>
    obtain⟨v,H',os,S,un,G,r',f⟩:=h;have q':v=.bl true:=f;subst q';obtain rfl:u=Value.bool true:=r';refine⟨rfl,OldK.of_keep fun b o e=>?_,os,S⟩;cases f:H b with
    | none=>exact un.keep b o e f (by intro c;exact absurd (show b ∈ ([]:List Addr) from c) (by simp)) (by simp)
    | some u=>
     rcases hO b with c | ⟨ob,xs,c⟩
     .rw [f] at c;cases c
     .have z2:=un.frzs b ob _ c;obtain⟨e1,_⟩:=E b _ c;obtain⟨e2,_⟩:=G b _ z2;rw [e] at e1;cases e1;exact e2
 cases T:K.lookup a with
 | some o=>have e:=Z a o T;rw [N] at e;cases e;refine j (fun _=>none) (fun _=>.inl rfl) (.inr ⟨_,y.toArray,_,T,rfl,rfl,rfl,by rw [List.size_toArray,I];exact hl,by simpa using rv⟩) (fun b u c=>by have M:(none:Option HO)=some u:=c;cases M) (fun b c=>absurd rfl c) fun c=>absurd rfl c
 | none=>
  refine j (fun b=>if b=a then some (.frz { cls:=.type "list",data:=.seq y.toArray } (.lst (L.map V.int))) else none) (fun b=>?_) (.inl (.inr ⟨{ cls:=.type "list",data:=.seq y.toArray },if_pos rfl⟩)) (fun b u c=>?_) (fun b c=>?_) fun _=>T
  .by_cases g:b=a
   .exact .inr ⟨_,_,if_pos g⟩
   .exact .inl (if_neg g)
  .by_cases g:b=a
   .have M:=(if_pos g).symm.trans c;cases M;subst g;exact⟨N,by rw [b8];exact hl,y,_,rv,N⟩
   .have M:=(if_neg g).symm.trans c;cases M
  .by_cases g:b=a
   .exact g
   .exact absurd (if_neg g) c
noncomputable abbrev K3 {K:FG} (_:K.In h):FG:=K
theorem AC {l:PySem.W.OpenLaw}{n k:Nat}{q:Program}{c:LS}{D:(SV)->Heap->Prop}{P:World->Heap->Prop}{d:DefRec}{K:Params->FG}{CX:World->xT}{sp:World->Sp}{x:Str}
  (R:l.most=some n) (y:n≤sizeLine) (p:d.params.defaults=[]) (T:Room k callerA)
  (L:∀(w:World) (h:Heap),P w h->(K w.params).In h)
  (F:∀(w:World) (mg:SV) (r:Addr) (h:Heap),(K w.params).In h->h.Ns mainGlobals mg->mg d.name=some (.ref r) ->
   ∃fd:FuncData,(∀(s:Shared) (u:Value),BindsTo s fd ⟨[u],[]⟩ [(x,u)]) /\
    ∀base:Heap,(K w.params).In base->base.Ns mainGlobals mg->FnOk l.prog w (K w.params) mg base (CX w) k r fd [x] (sp w))
  (S:∀(w:World) (H:Hp) (a:Addr) (t:List Int),t.length≤n->xS H->gQ (K w.params) H a (t.map V.int)->sp w [.ref a] H (fun v _=>v=.bl true) fun _ _ _=>False)
  (C:∀(w:World) (H:Hp) (s:Shared) (e:Value) (z:Shared),CX w [] H s (fun _ _ _=>False) e z->False) :
  PySem.W.WalkO q c D P l.row.toRowW d [] (fun f B=>PySem.call f B):=by
 refine Att.attach_call R p fun w A m mg Z r o pm U E a B t G Y W hd N g j i b Q=>?_;have X:=L w _ Y;obtain⟨fd,M,I⟩:=F w mg r _ X G.T.g g;exact zi X G.T.g G.T.b G.T.builtins G.T.nolimit Q j i (aM b y) T I M (fun H O J=>S w H a t b O J) fun H e z=>C w H m e z
theorem x8 {l:PySem.W.OpenLaw}{n k:Nat}{q:Program}{o:LS}{X:(SV)->Heap->Prop}{Y:World->Heap->Prop}{d:DefRec}{K:Params->FG}{CX:xT}{sp:FG->Sp}{x:Str}
  (i:l.most=some n) (m:n≤sizeLine) (c:d.params.defaults=[]) (j:Room k callerA)
  (g:∀(w:World) (h:Heap),Y w h->(K w.params).In h)
  (F:∀(w:World) (mg:SV) (r:Addr) (h:Heap),(K w.params).In h->h.Ns mainGlobals mg->mg d.name=some (.ref r) ->
   ∃fd:FuncData,(∀(s:Shared) (u:Value),BindsTo s fd ⟨[u],[]⟩ [(x,u)]) /\
    ∀base:Heap,(K w.params).In base->base.Ns mainGlobals mg->FnOk l.prog w (K w.params) mg base CX k r fd [x] (sp (K w.params)))
  (p:∀(K:FG) (H:Hp) (a:Addr) (b:List Int),b.length≤n->xS H->gQ K H a (b.map V.int)->sp K [.ref a] H (fun v _=>v=.bl true) fun _ _ _=>False)
  (C:∀(H:Hp) (s:Shared) (e:Value) (z:Shared),CX [] H s (fun _ _ _=>False) e z->False) :
  PySem.W.WalkO q o X Y l.row.toRowW d [] (fun f y=>PySem.call f y):=
 AC (K:=K) (CX:=fun _=>CX) (sp:=fun w=>sp (K w.params)) i m c j g F (fun w H a b J h2 t=>p (K w.params) H a b J h2 t) fun _ H s e z=>C H s e z
noncomputable def cv (s:Stmt) (j:Nat):Stmt:=match s with
 | .ClassDef _ _ _ b _ _ _ _ _ _ _=>b.getD j (.Pass ⟨0,0,0,0⟩)
 | _=>.Pass ⟨0,0,0,0⟩
noncomputable def gm (s:Stmt):Arguments:=match s with
 | .FunctionDef _ a _ _ _ _ _ _ _ _=>a
 | _=>{ posonlyargs:=[],args:=[],vararg:=none,kwonlyargs:=[],kw_defaults:=[],kwarg:=none,defaults:=[] }
noncomputable def dJ (s:Stmt):List Stmt:=match s with
 | .FunctionDef _ _ b _ _ _ _ _ _ _=>b
 | _=>[]
noncomputable def aP (s:Stmt):Scope:=match s with
 | .FunctionDef _ _ _ _ _ _ sc _ _ _=>sc
 | _=>{ kind:=.function,names:=[],isGenerator:=false,isCoroutine:=false }
noncomputable abbrev pI:xT:=fun _ _ _ _ _ _=>False
noncomputable abbrev E0:XK:=fun _ _ _=>False
theorem o6:kh pI X E0:=fun _ _ _ _ _ _ _ h=>h.elim
structure Fun (K:FG) (x qual:Str) (st:Stmt) (f:Addr) (fd:FuncData):Prop where
 ex:∃(oc:Value) (od:Option Addr) (kV doc pm:Value) (an:Option Addr) (cdv ct:Value) (osl:Array (OV)),
  fd=PySem.W.fnOf x qual (gm st) (dJ st) (aP st) .none kV doc pm an cdv ct/\K.lookup f=some ⟨oc,od,.func fd,osl⟩/\PySem.W.codeIn K cdv qual=true
 kp:PySem.W.keepIn K (.ref f)=true
section
variable {P:Program}{w:World}{K:FG}{mg:SV}{base:Heap}
theorem Fun.ok {x u:Str}{st:Stmt}{f:Addr}{fd:FuncData}{N ps:LS}{k:Nat}{sp:Sp} (F:Fun K x u st f fd) (S:FnScope N ps (aP st)) (len:∀v H Q E,sp v H Q E->v.length=ps.length)
  (b:∀(c:Value) (A:Around) (o:List Env) (s:Shared) (H:Hp) (v:List V) (Q:VK) (E:XK),Room k (A.deeper (envOfC u (aP st) s.heap.objs.size f c))->sp v H Q E ->
   ∃t,ms (tz pI P w K mg base N u (aP st) f c A o s H E).nox (dJ st) t/\t { nx:=fun _ H'=>Q .non H',rt:=Q } (start N v) H):FnOk P w K mg base pI (k+1) f fd ps sp:=by
 obtain⟨m,g,kV,a,i,n,c,e,l,rfl,lk,d⟩:=F.ex;refine Hf lk d S len fun A o s H v Q E r p=>?_;obtain⟨t,h,q⟩:=b c A o s H v Q E r p;exact⟨t,h.nox,q⟩
theorem Fun.binds {x q:Str}{st:Stmt}{f:Addr}{fd:FuncData}{ps:LS} (F:Fun K x q st f fd)
  (h:∀(kV d p:Value) (a:Option Addr) (c t:Value) (Y:LV),Y.length=ps.length->bindArgs (PySem.W.fnOf x q (gm st) (dJ st) (aP st) .none kV d p a c t) ⟨Y,[]⟩=pure (ps.zip Y)):Binds K fd ps []:=by
 obtain⟨s,n,kV,d,p,a,c,t,o,rfl,lk,e⟩:=F.ex;exact .all (h kV d p a c t)
theorem ju {x q:Str}{st:Stmt}{f:Addr}{h:Value}{e a:Option Addr}{s:Array (OV)}{kV o p d t:Value} (l:K.lookup f=some ⟨h,e,.func (PySem.W.fnOf x q (gm st) (dJ st) (aP st) .none kV o p a d t),s⟩)
  (c:PySem.W.codeIn K d q=true) (k:PySem.W.keepIn K (.ref f)=true):Fun K x q st f (PySem.W.fnOf x q (gm st) (dJ st) (aP st) .none kV o p a d t):=⟨⟨h,e,kV,o,p,a,d,t,s,rfl,l,c⟩,k⟩
end
section
variable {X:Cx}
theorem pv (i:Nat) (N:X.N[i]? = some x:=by rfl) (v:EI X.env.scope x:=by first | exact Or.inl rfl | exact Or.inr (Or.inl rfl) | exact Or.inr (Or.inr rfl)) (hd:(x == ("__debug__":Str))=false:=by decide)
  (h:(x == ("__classdict__":Str))=false:=by decide):PE X (.Name x O) (FO i):=yN N v hd h
end
noncomputable def L0 (H H':Hp):Prop:=∀b o,H b=some o->H' b=some o
end L2
namespace PySem
open PySem PyProof.Rows
namespace F
theorem entry_dict_update_loop:entryFor table "dict.update.loop"=some Builtin.«dict.update.loop»:=entryFor_of_tree (by kernel_rfl)
theorem plain_dict_update_loop:plainId "dict.update.loop"=true:=by decide +kernel
end F
section
variable {prog:Program}{w:World}{A:Around}{E:VP}{s:Shared}
inductive PairsAt {K:Type} [DecidableEq K] (knd:KeyKind prog w K) (h:Heap):LV->List (K×Value)->Prop
 | nil:PairsAt knd h [] []
 | cons {t:Addr}{key v:Value}{k:K}{us:LV}{kvs:List (K×Value)}:IsTup h t #[key,v]->knd.is k key=true->PairsAt knd h us kvs->PairsAt knd h (.ref t::us) ((k,v)::kvs)
end
end PySem
namespace Ev
open PySem L2
noncomputable def G7 (a C:Addr):Heap->Prop:=fun h=>∃o,h.get? a=some o/\o.cls=.ref C
inductive P where
 | non | bl (b:Bool) | int (i:Int) | str (x:Str) | tup (xs:List P) | lst (xs:List P) | ro (xs:List P) | dct (ks:List bz) (vs:List P)
inductive D where
 | p (v:P) | ref (i:Nat)
inductive SO where
 | lst (xs:List D) | dct (ks:List bz) (vs:List D) | fz (v:P) | ins (c:Str) (ks:LS) (vs:List D) | exc (c:Str) | dtt (ks:List (List bz)) (vs:List D)
noncomputable abbrev aD:=List SO
noncomputable abbrev Lc:=List (Option D)
noncomputable def Kj (K:FG) (a:Addr) (xs:List V):Prop:=kT K (fun _=>none) a xs
noncomputable def Kk (K:FG) (a:Addr) (xs:List V):Prop:=gQ K (fun _=>none) a xs
noncomputable def TupAt (K:FG) (H:Hp) (a:Addr) (xs:List V):Prop:=H a=some (.tup xs)\/Kj K a xs
noncomputable def LstAt (F:Aa) (H:Hp) (a:Addr) (xs:List V):Prop:=F a/\H a=some (.lst xs)
noncomputable def xR (K:FG) (F:Aa) (H:Hp) (a:Addr) (xs:List V):Prop:=(F a/\∃o,H a=some (.frz o (.lst xs)))\/Kk K a xs
variable {K:FG}{H:Hp}{a:Addr}{xs:List V}
theorem TupAt.sq (h:TupAt K H a xs):kT K H a xs:=by
 rcases h with h | (h | h)
 .exact .inl (.inl h)
 .rcases h with h | ⟨o,h⟩ <;> cases h
 .exact .inr h
variable {F:Aa}
theorem LstAt.sq (h:LstAt F H a xs):gQ K H a xs:=.inl (.inl h.2)
theorem xR.sq (h:xR K F H a xs):gQ K H a xs:=by
 rcases h with ⟨_,o,h⟩ | (h | h)
 .exact .inl (.inr ⟨o,h⟩)
 .rcases h with h | ⟨o,h⟩ <;> cases h
 .exact .inr h
section
variable (K:FG) (F:Aa) (H:Hp)
mutual
noncomputable def RP:P->V->Prop
 | .non,v=>v=.non
 | .bl b,v=>v=.bl b
 | .int i,v=>v=.int i
 | .str x,v=>v=.str x
 | .tup ds,v=>∃a xs,v=.ref a/\TupAt K H a xs/\ci ds xs
 | .lst ds,v=>∃a xs,v=.ref a/\LstAt F H a xs/\ci ds xs
 | .ro ds,v=>∃a xs,v=.ref a/\xR K F H a xs/\ci ds xs
 | .dct ks ds,v=>∃a kvs,v=.ref a/\F a/\H a=some (.dK kvs)/\kvs.map (·.1)=ks/\ci ds (kvs.map (·.2))
noncomputable def ci:List P->List V->Prop
 | [],xs=>xs=[]
 | d::ds,xs=>∃x r,xs=x::r/\RP d x/\ci ds r
end
noncomputable def RD (m:List Addr):D->V->Prop
 | .p d,v=>RP K F H d v
 | .ref i,v=>∃a,v=.ref a/\m[i]? = some a
noncomputable def dj (m:List Addr):List D->List V->Prop
 | [],xs=>xs=[]
 | d::s,xs=>∃x r,xs=x::r/\RD K F H m d x/\dj m s r
noncomputable def RO (m:List Addr) (a:Addr):SO->Prop
 | .lst d=>∃xs,H a=some (.lst xs)/\dj K F H m d xs
 | .dct s d=>∃k,H a=some (.dK k)/\k.map (·.1)=s/\dj K F H m d (k.map (·.2))
 | .fz v=>RP K F H v (.ref a)
 | .ins c s d=>∃C x k,PySem.W.nsIn K mainGlobals c=some (some (.ref C))/\H a=some (.ins C x k)/\k.map (·.1)=s/\dj K F H m d (k.map (·.2))
 | .dtt s d=>∃k,H a=some (.dT k)/\k.map (·.1)=s/\dj K F H m d (k.map (·.2))
 | .exc c=>∃C,PySem.W.nsIn K mainGlobals c=some (some (.ref C))/\H a=some (.ext (G7 a C))
noncomputable def SO.own:SO->Prop
 | .fz _=>False
 | _=>True
structure Rel (m:List Addr) (S:aD):Prop where
 len:m.length=S.length
 nd:m.Nodup
 obj:∀(i:Nat) a o,m[i]? = some a->S[i]? = some o->RO K F H m a o
 sep:∀(i:Nat) a o,m[i]? = some a->S[i]? = some o->o.own->¬F a
 trk:∀a ∈ m,H a≠none
 ft:∀a,F a->H a≠none
end
structure Kp (F:Aa) (m:List Addr) (H:Hp) (F':Aa) (m':List Addr) (H':Hp):Prop where
 pre:∃n,m'=m++n
 frz:∀b,F b->F' b
 frk:∀b o,F b->H b=some o->H' b=some o
 tup:∀b xs,H b=some (.tup xs)->H' b=some (.tup xs)
structure Stp (F:Aa) (m:List Addr) (H:Hp) (F':Aa) (m':List Addr) (H':Hp):Prop where
 pre:∃n,m'=m++n
 oth:∀b o,H b=some o->b ∉ m->H' b=some o
 frz:∀b,F b->F' b
 frk:∀b o,F b->H b=some o->H' b=some o
 tup:∀b xs,H b=some (.tup xs)->H' b=some (.tup xs)
 trk:∀b,H b≠none->H' b≠none
 nf:∀b,F' b->F b\/H b=none\/b ∈ m
 nm:∀b,b ∈ m'->b ∈ m\/H b=none
variable {F':Aa}{m:List Addr}{m':List Addr}{H':Hp}
theorem Stp.kp (s:Stp F m H F' m' H'):Kp F m H F' m' H':=⟨s.pre,s.frz,s.frk,s.tup⟩
theorem Stp.refl:Stp F m H F m H:=
 ⟨⟨[],by simp⟩,fun _ _ h _=>h,fun _ h=>h,fun _ _ _ h=>h,fun _ _ h=>h,fun _ h=>h,fun _ h=>.inl h,fun _ h=>.inl h⟩
theorem Stp.trans (a:Stp F m H C k I) (b:Stp C k I B r Y):Stp F m H B r Y where
 pre:=by obtain⟨f,s⟩:=a.pre;obtain⟨t,n⟩:=b.pre;exact⟨f++t,by rw [n,s,List.append_assoc]⟩
 oth:=fun c o h x=>b.oth c o (a.oth c o h x) fun z=>by
  rcases a.nm c z with z | z
  .exact x z
  .rw [h] at z;cases z
 frz:=fun c h=>b.frz c (a.frz c h)
 frk:=fun c o h e=>b.frk c o (a.frz c h) (a.frk c o h e)
 tup:=fun c xs h=>b.tup c xs (a.tup c xs h)
 trk:=fun c h=>b.trk c (a.trk c h)
 nf:=fun c h=>by
  rcases b.nf c h with h | h | h
  .exact a.nf c h
  .by_cases e:H c=none
   .exact .inr (.inl e)
   .exact absurd h (a.trk c e)
  .rcases a.nm c h with h | h
   .exact .inr (.inr h)
   .exact .inr (.inl h)
 nm:=fun c h=>by
  rcases b.nm c h with h | h
  .exact a.nm c h
  .by_cases e:H c=none
   .exact .inr e
   .exact absurd h (a.trk c e)
section
variable {K:FG}{F F':Aa}{H H':Hp}{m m':List Addr}{S O:aD}
theorem TupAt.kp (s:Kp F m H F' m' H') (h:TupAt K H a xs):TupAt K H' a xs:=by
 rcases h with h | h
 .exact .inl (s.tup _ _ h)
 .exact .inr h
theorem LstAt.kp (s:Kp F m H F' m' H') (h:LstAt F H a xs):LstAt F' H' a xs:=⟨s.frz _ h.1,s.frk _ _ h.1 h.2⟩
theorem xR.kp (s:Kp F m H F' m' H') (h:xR K F H a xs):xR K F' H' a xs:=by
 rcases h with ⟨f,o,h⟩ | h
 .exact .inl ⟨s.frz _ f,o,s.frk _ _ f h⟩
 .exact .inr h
mutual
theorem RP.kp (s:Kp F m H F' m' H'):∀{d:P}{v:V},RP K F H d v->RP K F' H' d v
 | .non,_,h=>h
 | .bl _,_,h=>h
 | .int _,_,h=>h
 | .str _,_,h=>h
 | .tup _,_,h=>by obtain⟨a,xs,e,t,r⟩:=h;exact⟨a,xs,e,t.kp s,ci.kp s r⟩
 | .lst _,_,h=>by obtain⟨a,xs,e,t,r⟩:=h;exact⟨a,xs,e,t.kp s,ci.kp s r⟩
 | .ro _,_,h=>by obtain⟨a,xs,e,t,r⟩:=h;exact⟨a,xs,e,t.kp s,ci.kp s r⟩
 | .dct _ _,_,h=>by obtain⟨a,kvs,e,f,t,k,r⟩:=h;exact⟨a,kvs,e,s.frz _ f,s.frk _ _ f t,k,ci.kp s r⟩
theorem ci.kp (s:Kp F m H F' m' H'):∀{ds:List P}{xs:List V},ci K F H ds xs->ci K F' H' ds xs
 | [],_,h=>h
 | _::_,_,h=>by obtain⟨x,r,e,h1,h2⟩:=h;exact⟨x,r,e,RP.kp s h1,ci.kp s h2⟩
end
theorem RD.kp (s:Kp F m H F' m' H'):∀{d:D}{v:V},RD K F H m d v->RD K F' H' m' d v
 | .p _,_,h=>RP.kp s h
 | .ref i,_,h=>by obtain⟨a,e,h⟩:=h;obtain⟨n,x⟩:=s.pre;refine⟨a,e,?_⟩;rw [x];have k:i < m.length:=(List.getElem?_eq_some_iff.mp h).1;rw [List.getElem?_append_left k];exact h
theorem dj.kp (s:Kp F m H F' m' H'):∀{d:List D}{xs:List V},dj K F H m d xs->dj K F' H' m' d xs
 | [],_,h=>h
 | _::_,_,h=>by obtain⟨x,r,e,a,n⟩:=h;exact⟨x,r,e,RD.kp s a,dj.kp s n⟩
variable {d:P}{v:V}
theorem RP.mono (s:Stp F m H F' m' H') (h:RP K F H d v):RP K F' H' d v:=RP.kp s.kp h
theorem ci.mono (s:Stp F m H F' m' H') {d:List P}{v:List V} (h:ci K F H d v):ci K F' H' d v:=ci.kp s.kp h
theorem RD.mono (s:Stp F m H F' m' H') {d:D}{v:V} (h:RD K F H m d v):RD K F' H' m' d v:=RD.kp s.kp h
theorem dj.mono (s:Stp F m H F' m' H') {d:List D}{v:List V} (h:dj K F H m d v):dj K F' H' m' d v:=dj.kp s.kp h
theorem ci.length:∀{d:List P}{xs:List V},ci K F H d xs->d.length=xs.length
 | [],_,h=>by rw [show _=([]:List V) from h] <;> rfl
 | _::_,_,h=>by obtain⟨x,r,e,_,a⟩:=h;rw [e,bc,bc,ci.length a]
theorem dj.length:∀{d:List D}{xs:List V},dj K F H m d xs->d.length=xs.length
 | [],_,h=>by rw [show _=([]:List V) from h] <;> rfl
 | _::_,_,h=>by obtain⟨x,r,e,_,a⟩:=h;rw [e,bc,bc,dj.length a]
theorem ci.get:∀{s:List P}{xs:List V}{i:Nat}{d:P},ci K F H s xs->s[i]? = some d->∃x,xs[i]? = some x/\RP K F H d x
 | [],_,_,_,_,e=>by simp at e
 | _::_,_,0,_,h,e=>by obtain⟨x,r,rfl,n,_⟩:=h;simp at e;subst e;exact⟨x,rfl,n⟩
 | _::_,_,i+1,d,h,e=>by obtain⟨x,r,rfl,_,k⟩:=h;obtain⟨y,a,f⟩:=ci.get (i:=i) k (by simpa using e);exact⟨y,by simpa using a,f⟩
theorem ci.append:∀{d T:List P}{xs y:List V},ci K F H d xs->ci K F H T y->ci K F H (d++T) (xs++y)
 | [],_,_,_,h,g=>by rw [show _=([]:List V) from h];exact g
 | _::_,_,_,_,h,g=>by obtain⟨x,r,rfl,a,e⟩:=h;exact⟨x,r++_,rfl,a,ci.append e g⟩
theorem dj.append:∀{d T:List D}{xs y:List V},dj K F H m d xs->dj K F H m T y->dj K F H m (d++T) (xs++y)
 | [],_,_,_,h,g=>by rw [show _=([]:List V) from h];exact g
 | _::_,_,_,_,h,g=>by obtain⟨x,r,rfl,a,e⟩:=h;exact⟨x,r++_,rfl,a,dj.append e g⟩
theorem ci.take:∀(n:Nat) {d:List P}{xs:List V},ci K F H d xs->ci K F H (d.take n) (xs.take n)
 | 0,_,_,_=>rfl
 | _+1,[],_,h=>by rw [show _=([]:List V) from h];rfl
 | n+1,_::_,_,h=>by obtain⟨x,r,rfl,a,e⟩:=h;exact⟨x,r.take n,rfl,a,ci.take n e⟩
theorem ci.drop:∀(n:Nat) {d:List P}{xs:List V},ci K F H d xs->ci K F H (d.drop n) (xs.drop n)
 | 0,_,_,h=>h
 | _+1,[],_,h=>by rw [show _=([]:List V) from h];rfl
 | n+1,_::_,_,h=>by obtain⟨x,r,rfl,_,a⟩:=h;exact ci.drop n a
theorem dj.take:∀(n:Nat) {d:List D}{xs:List V},dj K F H m d xs->dj K F H m (d.take n) (xs.take n)
 | 0,_,_,_=>rfl
 | _+1,[],_,h=>by rw [show _=([]:List V) from h];rfl
 | n+1,_::_,_,h=>by obtain⟨x,r,rfl,a,e⟩:=h;exact⟨x,r.take n,rfl,a,dj.take n e⟩
theorem dj.get:∀{s:List D}{xs:List V}{i:Nat}{d:D},dj K F H m s xs->s[i]? = some d->∃x,xs[i]? = some x/\RD K F H m d x
 | [],_,_,_,_,e=>by simp at e
 | _::_,_,0,_,h,e=>by obtain⟨x,r,rfl,n,_⟩:=h;simp at e;subst e;exact⟨x,rfl,n⟩
 | _::_,_,i+1,d,h,e=>by obtain⟨x,r,rfl,_,k⟩:=h;obtain⟨y,a,f⟩:=dj.get (i:=i) k (by simpa using e);exact⟨y,by simpa using a,f⟩
theorem dj.ofP:∀{d:List P}{xs:List V},ci K F H d xs->dj K F H m (d.map .p) xs
 | [],_,h=>h
 | _::_,_,h=>by obtain⟨x,r,e,a,s⟩:=h;exact⟨x,r,e,a,dj.ofP s⟩
variable {p:Addr}
theorem Rel.fresh_m (r:Rel K F H m S) (h:H p=none):p ∉ m:=fun z=>r.trk p z h
theorem Rel.fresh_F (r:Rel K F H m S) (h:H p=none):¬F p:=fun z=>r.ft p z h
variable {o:HO}
theorem iF (x:H p=none):Stp F m H F m (cc H p o) where
 pre:=⟨[],by simp⟩
 oth:=fun b u h _=>by rw [am (by rintro rfl;rw [x] at h;cases h)];exact h
 frz:=fun _ h=>h
 frk:=fun b u _ h=>by rw [am (by rintro rfl;rw [x] at h;cases h)];exact h
 tup:=fun b u h=>by rw [am (by rintro rfl;rw [x] at h;cases h)];exact h
 trk:=fun b h=>by
  by_cases e:b=p
  .subst e;rw [aE];exact fun z=>nomatch z
  .rw [am e];exact h
 nf:=fun _ h=>.inl h
 nm:=fun _ h=>.inl h
theorem RO.kp (s:Kp F m H F' m' H') {a:Addr}{o:SO} (k:∀u,H a=some u->H' a=some u) (h:RO K F H m a o):RO K F' H' m' a o:=by
 cases o with
 | lst d=>obtain⟨xs,e,r⟩:=h;exact⟨xs,k _ e,dj.kp s r⟩
 | dct b d=>obtain⟨x,e,f,r⟩:=h;exact⟨x,k _ e,f,dj.kp s r⟩
 | fz v=>exact RP.kp s (show RP K F H v (.ref a) from h)
 | ins c b d=>obtain⟨C,t,x,n,e,f,r⟩:=h;exact⟨C,t,x,n,k _ e,f,dj.kp s r⟩
 | dtt b d=>obtain⟨x,e,f,r⟩:=h;exact⟨x,k _ e,f,dj.kp s r⟩
 | exc c=>obtain⟨C,n,e⟩:=h;exact⟨C,n,k _ e⟩
theorem RO.mono (s:Stp F m H F' m' H') {a:Addr}{o:SO} (k:∀u,H a=some u->H' a=some u) (h:RO K F H m a o):RO K F' H' m' a o:=RO.kp s.kp k h
theorem Rel.stayK (r:Rel K F H m S) (s:Kp F m H F' m H') (k:∀a u,a ∈ m->H a=some u->H' a=some u) (n:∀a,F' a->F a\/H a=none) (t:∀a,F' a->H' a≠none):Rel K F' H' m S where
 len:=r.len
 nd:=r.nd
 obj:=fun i a o e x=>(r.obj i a o e x).kp s fun u h=>k a u (bF e) h
 sep:=fun i a o e x w f=>by
  rcases n a f with f | f
  .exact r.sep i a o e x w f
  .exact r.trk a (bF e) f
 trk:=fun a h=>by
  cases q:H a with
  | none=>exact absurd q (r.trk a h)
  | some u=>rw [k a u h q];exact fun z=>nomatch z
 ft:=t
theorem Rel.stay (r:Rel K F H m S) (s:Stp F m H F' m H') (k:∀a u,a ∈ m->H a=some u->H' a=some u) (n:∀a,F' a->F a\/H a=none) (t:∀a,F' a->H' a≠none):Rel K F' H' m S where
 len:=r.len
 nd:=r.nd
 obj:=fun i a o e x=>(r.obj i a o e x).mono s fun u h=>k a u (bF e) h
 sep:=fun i a o e x w f=>by
  rcases n a f with f | f
  .exact r.sep i a o e x w f
  .exact r.trk a (bF e) f
 trk:=fun a h=>s.trk a (r.trk a h)
 ft:=t
theorem Rel.new (r:Rel K F H m S) (x:H p=none):Rel K F (cc H p o) m S:=
 r.stay (iF x) (fun a u e h=>by rw [am (by rintro rfl;exact r.fresh_m x e)];exact h) (fun _ f=>.inl f) fun a f=>(iF (F:=F) (m:=m) x).trk a (r.ft a f)
theorem gg {p:Addr}{o:HO} (x:H p=none):Stp F m H F (m++[p]) (cc H p o) where
 pre:=⟨[p],rfl⟩
 oth:=(iF (F:=F) (m:=m) (o:=o) x).oth
 frz:=fun _ h=>h
 frk:=(iF (F:=F) (m:=m) (o:=o) x).frk
 tup:=(iF (F:=F) (m:=m) (o:=o) x).tup
 trk:=(iF (F:=F) (m:=m) (o:=o) x).trk
 nf:=fun _ h=>.inl h
 nm:=fun b h=>by
  rcases cC.mp h with h | h
  .exact .inl h
  .have:b=p:=by simpa using h
   subst this;exact .inr x
theorem Rel.own (r:Rel K F H m S) {p:Addr}{o:HO}{c:SO} (n:H p=none) (v:RO K F (cc H p o) (m++[p]) p c):Rel K F (cc H p o) (m++[p]) (S++[c]) where
 len:=by rw [List.length_append,List.length_append,r.len];rfl
 nd:=by
  rw [List.nodup_append];refine⟨r.nd,by simp,fun a t b q e=>?_⟩;have:b=p:=by simpa using q
  subst this;subst e;exact r.fresh_m n t
 obj:=fun i a u x s=>by
  by_cases k:i < m.length
  .rw [List.getElem?_append_left k] at x;rw [List.getElem?_append_left (by rw [<- r.len];exact k)] at s;exact (r.obj i a u x s).mono (gg n) fun w h=>by rw [am (by rintro rfl;rw [n] at h;cases h)];exact h
  .have l:i=m.length:=by
    have:=(List.getElem?_eq_some_iff.mp x).1;rw [List.length_append] at this;simp at this;lia
   subst l;rw [fV (Nat.le_refl _)] at x;rw [r.len,fV (Nat.le_refl _)] at s;simp at x s;subst x;subst s;exact v
 sep:=fun i a u x s w f=>by
  by_cases k:i < m.length
  .rw [List.getElem?_append_left k] at x;rw [List.getElem?_append_left (by rw [<- r.len];exact k)] at s;exact r.sep i a u x s w f
  .have l:i=m.length:=by
    have:=(List.getElem?_eq_some_iff.mp x).1;rw [List.length_append] at this;simp at this;lia
   subst l;rw [fV (Nat.le_refl _)] at x;simp at x;subst x;exact r.fresh_F n f
 trk:=fun a h=>by
  rcases cC.mp h with h | h
  .exact (gg (F:=F) (m:=m) n).trk a (r.trk a h)
  .have:a=p:=by simpa using h
   subst this;rw [aE];exact fun z=>nomatch z
 ft:=fun a f=>(gg (F:=F) (m:=m) n).trk a (r.ft a f)
variable {i:Nat}
theorem fG (r:Rel K F H m S) (x:m[i]? = some p) (s:S[i]? = some k) (hw:k.own) (t:∀xs,H p≠some (.tup xs)):Stp F m H F m (cc H p o) where
 pre:=⟨[],by simp⟩
 oth:=fun b u h a=>by rw [am (by rintro rfl;exact a (bF x))];exact h
 frz:=fun _ h=>h
 frk:=fun b u f h=>by rw [am (by rintro rfl;exact r.sep i _ k x s hw f)];exact h
 tup:=fun b xs h=>by rw [am (by rintro rfl;exact t xs h)];exact h
 trk:=fun b h=>by
  by_cases e:b=p
  .subst e;rw [aE];exact fun z=>nomatch z
  .rw [am e];exact h
 nf:=fun _ h=>.inl h
 nm:=fun _ h=>.inl h
theorem su (h:m.Nodup) (e:m[i]? = some a) (x:m[k]? = some a):i=k:=by exact (List.getElem?_inj (List.getElem?_eq_some_iff.mp e).1 h).mp (e.trans x.symm)
theorem Rel.set (r:Rel K F H m S) {i:Nat}{p:Addr}{c b:SO}{o:HO} (s:m[i]? = some p) (k:S[i]? = some c) (hw:c.own) (t:∀xs,H p≠some (.tup xs)) (q:RO K F (cc H p o) m p b) :
  Rel K F (cc H p o) m (S.set i b) where
 len:=by rw [eG];exact r.len
 nd:=r.nd
 obj:=fun j a u e x=>by
  by_cases n:i=j
  .subst n;rw [s] at e;cases e;rw [dP (by exact (List.getElem?_eq_some_iff.mp k).1)] at x;cases x;exact q
  .rw [a7 n] at x;exact (r.obj j a u e x).mono (fG r s k hw t) fun w h=>by rw [am (by rintro rfl;exact n (su r.nd s e))];exact h
 sep:=fun j a u e x w f=>by
  by_cases n:i=j
  .subst n;rw [s] at e;cases e;exact r.sep i p c s k hw f
  .rw [a7 n] at x;exact r.sep j a u e x w f
 trk:=fun a h=>(fG (o:=o) r s k hw t).trk a (r.trk a h)
 ft:=fun a f=>(fG (o:=o) r s k hw t).trk a (r.ft a f)
theorem qo (x:p ∈ m):Stp F m H (fun b=>F b\/b=p) m H:=
 ⟨⟨[],by simp⟩,fun _ _ h _=>h,fun _ h=>.inl h,fun _ _ _ h=>h,fun _ _ h=>h,fun _ h=>h,fun b h=>by
  rcases h with h | h
  .exact .inl h
  .subst h;exact .inr (.inr x),fun _ h=>.inl h⟩
theorem Rel.frz (r:Rel K F H m S) {i:Nat}{p:Addr}{c:SO}{v:P} (n:m[i]? = some p) (k:S[i]? = some c) (o:RP K (fun b=>F b\/b=p) H v (.ref p)):Rel K (fun b=>F b\/b=p) H m (S.set i (.fz v)) where
 len:=by rw [eG];exact r.len
 nd:=r.nd
 obj:=fun j a u x e=>by
  by_cases s:i=j
  .subst s;rw [n] at x;cases x;rw [dP (by exact (List.getElem?_eq_some_iff.mp k).1)] at e;cases e;exact o
  .rw [a7 s] at e;exact (r.obj j a u x e).mono (qo (bF n)) fun w h=>h
 sep:=fun j a u x e w f=>by
  by_cases s:i=j
  .subst s;rw [dP (by exact (List.getElem?_eq_some_iff.mp k).1)] at e;cases e;exact w
  .rw [a7 s] at e;rcases f with f | f
   .exact r.sep j a u x e w f
   .subst f;exact s (su r.nd n x)
 trk:=r.trk
 ft:=fun a f=>by
  rcases f with f | f
  .exact r.ft a f
  .subst f;exact r.trk _ (bF n)
end
noncomputable abbrev EE:=Lc->aD->Option (D×aD)
noncomputable abbrev EV:=Lc->aD->Option (P×aD)
noncomputable abbrev EB:=Lc->aD->Option (Bool×aD)
noncomputable abbrev fS:=Lc->aD->Option (List P×aD)
inductive Fl where
 | nx | rt (d:D) | bk | ct
noncomputable abbrev ES:=Lc->aD->Option (Fl×Lc×aD)
variable {q:Type}{β:Type}
noncomputable def aF (x:Option (q×aD)) (f:q->aD->Option β):Option β:=match x with
 | some (a,S)=>f a S
 | none=>none
@[simp] theorem aw (a:q) (S:aD) (f:q->aD->Option β):aF (some (a,S)) f=f a S:=rfl
@[simp] theorem HB (f:q->aD->Option β):aF none f=none:=rfl
theorem ah {q β:Type}{x:Option (q×aD)}{f:q->aD->Option β}{r:β} (h:aF x f=some r):∃a S,x=some (a,S)/\f a S=some r:=by
 cases x with
 | none=>cases h
 | some p=>exact⟨p.1,p.2,rfl,h⟩
noncomputable def qD (f:D->aD->Option (P×aD)):List D->aD->Option (List P×aD)
 | [],S=>some ([],S)
 | d::r,S=>aF (f d S) fun v h=>aF (qD f r h) fun U x=>some (v::U,x)
noncomputable def toP:Nat->D->aD->Option (P×aD)
 | _,.p v,S=>some (v,S)
 | 0,.ref _,_=>none
 | n+1,.ref i,S=>match S[i]? with
  | some (.lst d)=>aF (qD (toP n) d S) fun U h=>some (.lst U,h.set i (.fz (.lst U)))
  | some (.dct k d)=>aF (qD (toP n) d S) fun U h=>some (.dct k U,h.set i (.fz (.dct k U)))
  | some (.fz v)=>some (v,S)
  | some (.ins _ _ _)=>none
  | some (.exc _)=>none
  | some (.dtt _ _)=>none
  | none=>none
@[simp] theorem FJ (n:Nat) (v:P) (S:aD):toP n (.p v) S=some (v,S):=by cases n <;> rfl
theorem kC (n:Nat):∀(U:List P) (S:aD),qD (toP n) (U.map .p) S=some (U,S)
 | [],_=>rfl
 | v::r,S=>by simp [qD,kC n r S]
variable {n:Nat}{S:aD}{U:List P}
theorem ee (h:S[i]? = some (.lst (U.map .p))):toP (n+1) (.ref i) S=some (.lst U,S.set i (.fz (.lst U))):=by simp [toP,h,kC]
section
variable {K:FG}{F:Aa}{H:Hp}{m:List Addr}{S O:aD}
theorem qC 
  (n:∀{d:D}{x:V}{v:P}{F:Aa}{S O:aD},f d S=some (v,O)->Rel K F H m S->RD K F H m d x->∃F',Stp F m H F' m H/\Rel K F' H m O/\O.length=S.length/\RP K F' H v x) :
  ∀{s:List D}{xs:List V}{U:List P}{F:Aa}{S O:aD},qD f s S=some (U,O)->Rel K F H m S->dj K F H m s xs->∃F',Stp F m H F' m H/\Rel K F' H m O/\O.length=S.length/\ci K F' H U xs
 | [],xs,U,F,S,O,h,r,a=>by cases h;exact⟨F,.refl,r,rfl,a⟩
 | d::s,xs,U,F,S,O,h,r,a=>by obtain⟨x,y,e,p,q⟩:=a;obtain⟨v,z,c,h⟩:=ah h;obtain⟨A,o,t,h⟩:=ah h;cases h;obtain⟨C,k,i,l,u⟩:=n c r p;obtain⟨B,b,j,w,g⟩:=qC n t i (dj.mono k q);exact⟨B,k.trans b,j,w.trans l,x,y,e,RP.mono b u,g⟩
theorem ng:∀(n:Nat) {d:D}{x:V}{v:P}{F:Aa}{S O:aD},toP n d S=some (v,O)->Rel K F H m S->RD K F H m d x->∃F',Stp F m H F' m H/\Rel K F' H m O/\O.length=S.length/\RP K F' H v x
 | n,.p w,x,v,F,S,O,h,r,u=>by rw [FJ] at h;cases h;exact⟨F,.refl,r,rfl,u⟩
 | 0,.ref i,x,v,F,S,O,h,r,u=>by cases h
 | n+1,.ref i,x,v,F,S,O,h,r,u=>by
  obtain⟨a,e,f⟩:=u;subst e;have p:i < S.length:=by rw [<- r.len];exact (List.getElem?_eq_some_iff.mp f).1
  obtain⟨o,J⟩:∃o,S[i]? = some o:=⟨S[i],by simp [p]⟩;have z:=r.obj i a o f J;simp only [toP,J] at h;cases o with
  | fz w=>cases h;exact⟨F,.refl,r,rfl,z⟩
  | ins c L I=>cases h
  | exc c=>cases h
  | dtt _ _=>cases h
  | lst I=>obtain⟨U,t,g,h⟩:=ah h;cases h;obtain⟨xs,j,E⟩:=z;obtain⟨C,G,B,k,A⟩:=qC (fun h=>ng n h) g r E;obtain⟨N,s⟩:∃o,t[i]? = some o:=⟨t[i]'(by rw [k];exact p),by simp [k,p]⟩;have l:Stp C m H (fun b=>C b\/b=a) m H:=qo (bF f);have q:RP K (fun b=>C b\/b=a) H (.lst U) (.ref a):=⟨a,xs,rfl,⟨.inr rfl,j⟩,ci.mono l A⟩;exact⟨_,G.trans l,B.frz f s q,by rw [eG];exact k,q⟩
  | dct L I=>obtain⟨U,t,g,h⟩:=ah h;cases h;obtain⟨y,j,M,E⟩:=z;obtain⟨C,G,B,k,A⟩:=qC (fun h=>ng n h) g r E;obtain⟨N,s⟩:∃o,t[i]? = some o:=⟨t[i]'(by rw [k];exact p),by simp [k,p]⟩;have l:Stp C m H (fun b=>C b\/b=a) m H:=qo (bF f);have q:RP K (fun b=>C b\/b=a) H (.dct L U) (.ref a):=⟨a,y,rfl,.inr rfl,j,M,ci.mono l A⟩;exact⟨_,G.trans l,B.frz f s q,by rw [eG];exact k,q⟩
end
structure Grow (F:Aa) (H:Hp) (F':Aa) (H':Hp):Prop where
 keep:∀b o,H b=some o->H' b=some o
 frz:∀b,F b->F' b
 nf:∀b,F' b->F b\/(H b=none/\H' b≠none)
section
variable {K:FG}{F F' C B:Aa}{H H' I Y:Hp}{m:List Addr}{S O:aD}
theorem Grow.refl:Grow F H F H:=⟨fun _ _ h=>h,fun _ h=>h,fun _ h=>.inl h⟩
theorem Grow.stp (g:Grow F H F' H'):Stp F m H F' m H' where
 pre:=⟨[],by simp⟩
 oth:=fun b o h _=>g.keep b o h
 frz:=g.frz
 frk:=fun b o _ h=>g.keep b o h
 tup:=fun b xs h=>g.keep b _ h
 trk:=fun b h=>by
  cases q:H b with
  | none=>exact absurd q h
  | some o=>rw [g.keep b o q];exact fun z=>nomatch z
 nf:=fun b h=>by
  rcases g.nf b h with h | ⟨h,_⟩
  .exact .inl h
  .exact .inr (.inl h)
 nm:=fun _ h=>.inl h
theorem Rel.grow (r:Rel K F H m S) (g:Grow F H F' H'):Rel K F' H' m S:=
 r.stay g.stp (fun a u _ h=>g.keep a u h) (fun a f=>by
  rcases g.nf a f with f | ⟨f,_⟩
  .exact .inl f
  .exact .inr f) fun a f=>by
  rcases g.nf a f with f | ⟨_,f⟩
  .exact (g.stp (m:=m)).trk a (r.ft a f)
  .exact f
theorem bU {p:Addr}{o:HO} (x:H p=none):Grow F H F (cc H p o):=
 ⟨fun b u h=>by rw [am (by rintro rfl;rw [x] at h;cases h)];exact h,fun _ h=>h,fun _ h=>.inl h⟩
theorem cq {p:Addr}{o:HO} (x:H p=none):Grow F H (fun b=>F b\/b=p) (cc H p o):=
 ⟨fun b u h=>by rw [am (by rintro rfl;rw [x] at h;cases h)];exact h,fun _ h=>.inl h,fun b h=>by
  rcases h with h | h
  .exact .inl h
  .subst h;exact .inr ⟨x,by rw [aE];exact fun z=>nomatch z⟩⟩
theorem RP.grow (g:Grow F H F' H') (h:RP K F H d v):RP K F' H' d v:=RP.mono (m:=[]) g.stp h
theorem ci.grow (g:Grow F H F' H') (h:ci K F H d v):ci K F' H' d v:=ci.mono (m:=[]) g.stp h
theorem RP.newTup (x:H p=none) (r:ci K F H h xs):RP K F (cc H p (.tup xs)) (.tup h) (.ref p):=⟨p,xs,rfl,.inl aE,r.grow (bU x)⟩
theorem RP.newLst (x:H p=none) (r:ci K F H h xs):RP K (fun b=>F b\/b=p) (cc H p (.lst xs)) (.lst h) (.ref p):=⟨p,xs,rfl,⟨.inr rfl,aE⟩,r.grow (cq x)⟩
end
noncomputable def vC (v:P):EV:=fun _ S=>some (v,S)
noncomputable def aa (i:Nat):EE:=fun L S=>match L[i]? with
 | some (some d)=>some (d,S)
 | _=>none
noncomputable def vE (f:EE):EV:=fun L S=>aF (f L S) (toP 9)
noncomputable def eV (f:EV):EE:=fun L S=>aF (f L S) fun v h=>some (.p v,h)
noncomputable def ab (g:P->P->Option P) (a b:EV):EV:=fun L S=>aF (a L S) fun x h=>aF (b L h) fun y e=>(g x y).map fun v=>(v,e)
noncomputable def CU (g:P->Option P) (a:EV):EV:=fun L S=>aF (a L S) fun x h=>(g x).map fun v=>(v,h)
noncomputable def bV (a:EV):EB:=fun L S=>aF (a L S) fun x h=>match x with
 | .bl b=>some (b,h)
 | _=>none
noncomputable def fP (a b:EB):EB:=fun L S=>aF (a L S) fun c h=>if c=true then b L h else some (false,h)
noncomputable def xO (a b:EB):EB:=fun L S=>aF (a L S) fun c h=>if c=true then some (true,h) else b L h
noncomputable def rM (a:EB):EB:=fun L S=>aF (a L S) fun c h=>some (!c,h)
noncomputable def vB (a:EB):EV:=fun L S=>aF (a L S) fun c h=>some (.bl c,h)
noncomputable def B6 (c:EB) (a b:EV):EV:=fun L S=>aF (c L S) fun k h=>if k=true then a L h else b L h
noncomputable def aN:fS:=fun _ S=>some ([],S)
noncomputable def aH (a:EV) (r:fS):fS:=fun L S=>aF (a L S) fun x h=>aF (r L h) fun xs e=>some (x::xs,e)
noncomputable def af (g:List P->Option P) (a:fS):EV:=fun L S=>aF (a L S) fun xs h=>(g xs).map fun v=>(v,h)
noncomputable def ei:ES:=fun L S=>some (.nx,L,S)
noncomputable def ac (f g:ES):ES:=fun L S=>match f L S with
 | some (.nx,h,x)=>g h x
 | r=>r
noncomputable def ak (i:Nat) (f:EE):ES:=fun L S=>aF (f L S) fun d h=>some (.nx,L.set i (some d),h)
noncomputable def aK (f:EE):ES:=fun L S=>aF (f L S) fun d h=>some (.rt d,L,h)
noncomputable def bL (f:EE):ES:=fun L S=>aF (f L S) fun _ h=>some (.nx,L,h)
noncomputable def dY (c:EB) (a b:ES):ES:=fun L S=>aF (c L S) fun k h=>if k=true then a L h else b L h
noncomputable def nl:ES:=fun _ _=>none
noncomputable abbrev i4:=P->Lc->Option Lc
noncomputable def ag (i:Nat):i4:=fun v L=>some (L.set i (some (.p v)))
noncomputable def aO (g:i4) (b:ES):List P->Lc->aD->Option (Fl×Lc×aD)
 | [],L,S=>some (.nx,L,S)
 | v::r,L,S=>match g v L with
  | none=>none
  | some a=>match b a S with
   | some (.nx,L2,h)=>aO g b r L2 h
   | some (.ct,L2,h)=>aO g b r L2 h
   | some (.bk,L2,h)=>some (.nx,L2,h)
   | x=>x
noncomputable def b7 (i:fS) (g:i4) (b:ES):ES:=fun L S=>aF (i L S) fun xs h=>aO g b xs L h
open PySem PySem.Spec PyProof.Rows L2
section
variable (K:FG)
structure RL (F:Aa) (H:Hp) (m:List Addr) (σ:L2.St) (L:Lc):Prop where
 len:σ.length=L.length
 at':∀(i:Nat) d,L[i]? = some (some d)->∃v,σ[i]? = some (some v)/\RD K F H m d v
inductive tEI (f:EE) (σ:L2.St) (H:Hp) (Q:VK):Prop
 | mk (F:Aa) (m:List Addr) (L:Lc) (S:aD) (d:D) (S':aD) (h0_:Rel K F H m S) (h1_:RL K F H m σ L) (h2_:f L S=some (d,S')) (h3_:∀v F' m' H',Stp F m H F' m' H'->Rel K F' H' m' S'->RD K F' H' m' d v->Q v H'):tEI f σ H Q
noncomputable def tE (f:EE):TE:=fun M H Q=>tEI K f M H Q
inductive tVI (f:EV) (σ:L2.St) (H:Hp) (Q:VK):Prop
 | mk (F:Aa) (m:List Addr) (L:Lc) (S:aD) (d:P) (S':aD) (h0_:Rel K F H m S) (h1_:RL K F H m σ L) (h2_:f L S=some (d,S')) (h3_:∀v F' m' H',Stp F m H F' m' H'->Rel K F' H' m' S'->RP K F' H' d v->Q v H'):tVI f σ H Q
noncomputable def tV (f:EV):TE:=fun M H Q=>tVI K f M H Q
inductive tQI (f:EB) (σ:L2.St) (H:Hp) (Q:Bool->Hp->Prop):Prop
 | mk (F:Aa) (m:List Addr) (L:Lc) (S:aD) (b:Bool) (S':aD) (h0_:Rel K F H m S) (h1_:RL K F H m σ L) (h2_:f L S=some (b,S')) (h3_:∀F' m' H',Stp F m H F' m' H'->Rel K F' H' m' S'->Q b H'):tQI f σ H Q
noncomputable def tQ (f:EB):TT:=fun M H Q=>tQI K f M H Q
inductive tVsI (f:fS) (σ:L2.St) (H:Hp) (Q:List V->Hp->Prop):Prop
 | mk (F:Aa) (m:List Addr) (L:Lc) (S:aD) (ds:List P) (S':aD) (h0_:Rel K F H m S) (h1_:RL K F H m σ L) (h2_:f L S=some (ds,S')) (h3_:∀xs F' m' H',Stp F m H F' m' H'->Rel K F' H' m' S'->ci K F' H' ds xs->Q xs H'):tVsI f σ H Q
noncomputable def nh (f:fS):TA:=fun M H Q=>tVsI K f M H Q
noncomputable def Jz (D:Ends) (F:Aa) (m:List Addr) (M:L2.St) (H:Hp):Fl->Prop
 | .nx=>D.nx M H
 | .bk=>D.bk M H
 | .ct=>D.ct M H
 | .rt d=>∀v,RD K F H m d v->D.rt v H
inductive tStI (f:ES) (D:Ends) (σ:L2.St) (H:Hp):Prop
 | mk (F:Aa) (m:List Addr) (L:Lc) (S:aD) (fl:Fl) (L':Lc) (S':aD) (h0_:Rel K F H m S) (h1_:RL K F H m σ L) (h2_:f L S=some (fl,L',S')) (h3_:∀σ' F' m' H',Stp F m H F' m' H'->Rel K F' H' m' S'->RL K F' H' m' σ' L'->Jz K D F' m' σ' H' fl):tStI f D σ H
noncomputable def ku (f:ES):TS:=fun D M H=>tStI K f D M H
end
section
variable {K:FG}{F F':Aa}{H H':Hp}{m m':List Addr}{M:L2.St}{L:Lc}{S:aD}
theorem RL.mono (s:Stp F m H F' m' H') (h:RL K F H m M L):RL K F' H' m' M L:=⟨h.len,fun i d e=>by obtain⟨v,x,r⟩:=h.at' i d e;exact⟨v,x,RD.mono s r⟩⟩
theorem RL.set (h:RL K F H m M L) (r:RD K F H m d v) (i:Nat):RL K F H m (M.set i (some v)) (L.set i (some d)):=⟨by rw [eG,eG];exact h.len,fun j e q=>by
 by_cases x:i=j
 .subst x;by_cases a:i < L.length
  .rw [dP a] at q;cases q;exact⟨v,dP (by rw [h.len];exact a),r⟩
  .rw [List.getElem?_eq_none (by rw [eG];lia)] at q;cases q
 .rw [a7 x] at q;rw [a7 x];exact h.at' j e q⟩
end
section
variable {X:Cx}{e:Expr}{T:Ab}{l:Stmt}{sts:List Stmt}
theorem _root_.L2.PE.imp' (h:PE X e t) (i:∀M H Q,k M H Q->t M H Q):PE X e k:=fun p s M H Q I q=>h p s M H Q I (i M H Q q)
theorem _root_.L2.PT.imp' (h:PT X e t) (i:∀M H Q,k M H Q->t M H Q):PT X e k:=fun p s M H Q I q=>h p s M H Q I (i M H Q q)
theorem _root_.L2.PW.imp' (h:PW X e t) (i:∀M H Q,k M H Q->t M H Q):PW X e k:=fun w p s M H Q I q=>h w p s M H Q I (i M H Q q)
theorem _root_.L2.PA.imp' (h:PA X T t) (i:∀M H Q,k M H Q->t M H Q):PA X T k:=fun N p s M H Q I q=>h N p s M H Q I (i M H Q q)
theorem _root_.L2.PS.imp' (h:PS X l t) (i:∀D M H,k D M H->t D M H):PS X l k:=fun p s M H D I q=>h p s M H D I (i D M H q)
theorem _root_.L2.ms.imp' (h:ms X sts t) (i:∀D M H,k D M H->t D M H):ms X sts k:=fun p s M H D I q=>h p s M H D I (i D M H q)
end
section
variable {X:Cx}{a b c e:Expr}{T:Ab}{y Q:EV}{fe:EE}{N:Pos}
theorem IX (h:PE X e (tE X.K fe)):PE X e (tV X.K (vE fe)):=h.imp' fun M H Q z=>by obtain⟨F,m,L,S,d,O,r,l,q,k⟩:=z;obtain⟨a,x,n,f⟩:=ah q;refine⟨F,m,L,S,a,x,r,l,n,fun v F' m' H' s b t=>?_⟩;obtain⟨B,w,c,_,p⟩:=ng 9 f b t;exact k v B m' H' (s.trans w) c p
theorem EN (h:PE X e (tV X.K y)):PE X e (tE X.K (eV y)):=h.imp' fun M H Q z=>by obtain⟨F,m,L,S,d,O,r,l,q,k⟩:=z;obtain⟨x,c,a,n⟩:=ah q;cases n;exact⟨F,m,L,S,x,O,r,l,a,fun v F' m' H' s f b=>k v F' m' H' s f b⟩
theorem IW (i:Nat) (s:X.N[i]? = some x:=by rfl) (n:EI X.env.scope x:=by first | exact Or.inl rfl | exact Or.inr (Or.inl rfl) | exact Or.inr (Or.inr rfl)) (hd:(x == ("__debug__":Str))=false:=by decide)
  (h:(x == ("__classdict__":Str))=false:=by decide):PE X (.Name x N) (tE X.K (aa i)):=(yN s n hd h).imp' fun M H Q z=>by
 obtain⟨F,m,L,S,d,O,r,l,q,k⟩:=z;unfold aa at q;split at q
 .rename_i b e;cases q;obtain⟨v,a,f⟩:=l.at' i _ e;exact⟨v,a,k v F m H .refl r f⟩
 .cases q
theorem xC (h:PE X e (tC v)) (r:∀F H,RP X.K F H d v):PE X e (tV X.K (vC d)):=h.imp' fun M H Q z=>by obtain⟨F,m,L,S,a,O,x,l,q,k⟩:=z;cases q;exact k v F m H .refl x (r F H)
theorem Jg {i h N}:PE X (.Constant (.int i) h N) (tV X.K (vC (.int i))):=xC Dz fun _ _=>rfl
theorem La {i h N}:PE X (.Constant (.bool i) h N) (tV X.K (vC (.bl i))):=xC Gn fun _ _=>rfl
theorem Ja {h N}:PE X (.Constant .none h N) (tV X.K (vC .non)):=xC Dy fun _ _=>rfl
theorem IZ {i h N}:PE X (.Constant (.str i) h N) (tV X.K (vC (.str i))):=xC Dv fun _ _=>rfl
inductive rPI (K:FG) (g:P->P->Option P) (x:V) (y:V) (H:Hp) (Q:VK):Prop
 | mk (F:Aa) (dx:P) (dy:P) (d:P) (h0_:(∀a,F a->H a≠none)) (h1_:RP K F H dx x) (h2_:RP K F H dy y) (h3_:g dx dy=some d) (h4_:∀v F' H',Grow F H F' H'->RP K F' H' d v->Q v H'):rPI K g x y H Q
noncomputable def rP (K:FG) (g:P->P->Option P):R2:=fun x y H Q=>rPI K g x y H Q
noncomputable def mu (X:Cx) (f:Value->Value->Sem Value) (g:P->P->Option P):Prop:=io X f (rP X.K g)
theorem qj (h:tV X.K (ab g y Q) M H t):C3 (rP X.K g) (tV X.K y) (tV X.K Q) M H t:=by
 obtain⟨F,m,L,S,d,O,r,l,q,k⟩:=h;obtain⟨x,s,o,q⟩:=ah q;obtain⟨a,j,K,q⟩:=ah q;refine⟨F,m,L,S,x,s,r,l,o,fun v C P I b J D=>?_⟩;refine⟨C,P,L,s,a,j,J,l.mono b,K,fun u B A Y c f E=>?_⟩;cases e:g x a with
 | none=>rw [e] at q;cases q
 | some z=>rw [e] at q;cases q;refine⟨B,x,a,_,f.ft,RP.mono c D,E,e,fun w p i n G=>?_⟩;exact k w p A i (b.trans (c.trans n.stp)) (f.grow n) G
theorem K9 (o:mu X (binaryOp k) g) (x:PE X a (tV X.K y)) (e:PE X b (tV X.K Q)):PE X (.BinOp a k b N) (tV X.K (ab g y Q)):=
 (Gm o x e).imp' fun _ _ _ h=>qj h
theorem Ji (o:mu X (compareOp k) g) (x:PE X a (tV X.K y)) (e:PE X b (tV X.K Q)) (m:behindInMarks k b=false):PE X (.Compare a [k] [b] N) (tV X.K (ab g y Q)):=
 (vG o x e m).imp' fun _ _ _ h=>qj h
theorem yj (h:tQ X.K (bV (ab g y Q)) M H t):yk (C3 (rP X.K g) (tV X.K y) (tV X.K Q)) M H t:=by
 refine qj ?_;obtain⟨F,m,L,S,d,O,r,l,q,k⟩:=h;obtain⟨x,n,e,q⟩:=ah q;cases x with
 | bl b=>cases q;exact⟨F,m,L,S,_,_,r,l,e,fun v F' m' H' s a p=>⟨_,p,k F' m' H' s a⟩⟩
 | _=>cases q
theorem IT (o:mu X (compareOp k) g) (x:PE X a (tV X.K y)) (e:PE X b (tV X.K Q)) (m:behindInMarks k b=false):PT X (.Compare a [k] [b] N) (tQ X.K (bV (ab g y Q))):=
 (vx o x e m).imp' fun _ _ _ h=>yj h
variable {z qb:EB}{ck:Ab}
theorem Fm (h:PT X a (tQ X.K z)):PW X (.BoolOp .And [a] N) (tQ X.K z):=A1 h
theorem IR (h:PT X a (tQ X.K z)):PW X (.BoolOp .Or [a] N) (tQ X.K z):=Di h
theorem IU (n:PT X a (tQ X.K z)) (f:PW X (.BoolOp .And (b::ck) N) (tQ X.K qb)):PW X (.BoolOp .And (a::b::ck) N) (tQ X.K (fP z qb)):=
 (Dj n f).imp' fun M H Q t=>by
  obtain⟨F,m,L,S,d,O,r,l,q,k⟩:=t;obtain⟨c,h,e,q⟩:=ah q;refine⟨F,m,L,S,c,h,r,l,e,fun F' m' H' s x=>?_⟩;cases c with
  | true=>rw [if_pos rfl] at q ⊢;exact⟨F',m',L,h,d,O,x,l.mono s,q,fun B p Y w v=>k B p Y (s.trans w) v⟩
  | false=>rw [if_neg bS] at q ⊢;cases q;exact k F' m' H' s x
theorem K7 (n:PT X a (tQ X.K z)) (f:PW X (.BoolOp .Or (b::ck) N) (tQ X.K qb)):PW X (.BoolOp .Or (a::b::ck) N) (tQ X.K (xO z qb)):=
 (Gg n f).imp' fun M H Q t=>by
  obtain⟨F,m,L,S,d,O,r,l,q,k⟩:=t;obtain⟨c,h,e,q⟩:=ah q;refine⟨F,m,L,S,c,h,r,l,e,fun F' m' H' s x=>?_⟩;cases c with
  | false=>rw [if_neg bS] at q ⊢;exact⟨F',m',L,h,d,O,x,l.mono s,q,fun B p Y w v=>k B p Y (s.trans w) v⟩
  | true=>rw [if_pos rfl] at q ⊢;cases q;exact k F' m' H' s x
theorem IS (h:PT X a (tQ X.K z)):PT X (.UnaryOp .Not a N) (tQ X.K (rM z)):=
 (Dk h).imp' fun M H Q x=>by obtain⟨F,m,L,S,d,O,r,l,q,k⟩:=x;obtain⟨c,f,e,q⟩:=ah q;cases q;exact⟨F,m,L,S,c,O,r,l,e,fun F' m' H' s n=>k F' m' H' s n⟩
theorem Fy {k} (h:PE X a (tV X.K (vB z))):PE X (.BoolOp k [a] N) (tV X.K (vB z)):=Dw h
theorem r_ (h:tQ X.K z M H k) (x:∀b H',k b H'->t (.bl b) H'):tV X.K (vB z) M H t:=by obtain⟨F,m,L,S,d,O,r,l,q,a⟩:=h;exact⟨F,m,L,S,.bl d,O,r,l,by unfold vB;rw [q];rfl,fun v F' m' H' s e p=>by rw [show v=.bl d from p];exact x _ _ (a F' m' H' s e)⟩
theorem vI (h:tV X.K (vB z) M H k):tQ X.K z M H fun b H'=>k (.bl b) H':=by obtain⟨F,m,L,S,d,O,r,l,q,x⟩:=h;obtain⟨c,n,e,q⟩:=ah q;cases q;exact⟨F,m,L,S,c,O,r,l,e,fun F' m' H' s a=>x _ F' m' H' s a rfl⟩
theorem Jj (f:PE X a (tV X.K (vB z))) (t:PE X (.BoolOp .And (b::ck) N) (tV X.K (vB qb))):PE X (.BoolOp .And (a::b::ck) N) (tV X.K (vB (fP z qb))):=
 (DB f t).imp' fun M H Q h=>by
  obtain⟨F,m,L,S,d,O,r,l,q,k⟩:=vI h;obtain⟨c,x,n,q⟩:=ah q;refine r_ (k:=fun c I=>if c=true then tV X.K (vB qb) M I Q else Q (.bl false) I) ⟨F,m,L,S,c,x,r,l,n,fun F' m' H' s e=>?_⟩ fun b H' q=>⟨b,rfl,q⟩;cases c with
  | true=>rw [if_pos rfl] at q ⊢;exact r_ (k:=fun b Y=>Q (.bl b) Y) ⟨F',m',L,x,d,O,e,l.mono s,q,fun B p Y w v=>k B p Y (s.trans w) v⟩ fun _ _ q=>q
  | false=>rw [if_neg bS] at q ⊢;cases q;exact k F' m' H' s e
theorem K8 (f:PE X a (tV X.K (vB z))) (t:PE X (.BoolOp .Or (b::ck) N) (tV X.K (vB qb))):PE X (.BoolOp .Or (a::b::ck) N) (tV X.K (vB (xO z qb))):=
 (Gk f t).imp' fun M H Q h=>by
  obtain⟨F,m,L,S,d,O,r,l,q,k⟩:=vI h;obtain⟨c,x,n,q⟩:=ah q;refine r_ (k:=fun c I=>if c=true then Q (.bl true) I else tV X.K (vB qb) M I Q) ⟨F,m,L,S,c,x,r,l,n,fun F' m' H' s e=>?_⟩ fun b H' q=>⟨b,rfl,q⟩;cases c with
  | false=>rw [if_neg bS] at q ⊢;exact r_ (k:=fun b Y=>Q (.bl b) Y) ⟨F',m',L,x,d,O,e,l.mono s,q,fun B p Y w v=>k B p Y (s.trans w) v⟩ fun _ _ q=>q
  | true=>rw [if_pos rfl] at q ⊢;cases q;exact k F' m' H' s e
theorem I_ (x:PE X a (tV X.K (vB z))):PE X (.UnaryOp .Not a N) (tV X.K (vB (rM z))):=
 (Dx x).imp' fun M H Q h=>by obtain⟨F,m,L,S,d,O,r,l,q,k⟩:=vI h;obtain⟨c,f,e,q⟩:=ah q;cases q;exact r_ (k:=fun b H'=>Q (.bl (!b)) H') ⟨F,m,L,S,c,O,r,l,e,fun F' m' H' s n=>k F' m' H' s n⟩ fun b H' q=>⟨b,rfl,q⟩
theorem vb (h:PE X e (tV X.K y)):PE X e (tV X.K (vB (bV y))):=h.imp' fun M H Q h=>by
 obtain⟨F,m,L,S,d,O,r,l,q,k⟩:=vI h;obtain⟨x,f,a,q⟩:=ah q;cases x with
 | bl b=>cases q;exact⟨F,m,L,S,_,_,r,l,a,fun v F' m' H' s n p=>by cases (show v=.bl d from p);exact k F' m' H' s n⟩
 | _=>cases q
theorem K' (g:PT X c (tQ X.K z)) (w:PE X a (tV X.K y)) (u:PE X b (tV X.K Q)):PE X (.IfExp c a b N) (tV X.K (B6 z y Q)):=
 (yS g w u).imp' fun M H h i=>by
  obtain⟨F,m,L,S,d,O,r,l,q,k⟩:=i;obtain⟨c,x,p,q⟩:=ah q;refine⟨F,m,L,S,c,x,r,l,p,fun F' m' H' s t=>?_⟩;cases c with
  | true=>rw [if_pos rfl] at q ⊢;exact⟨F',m',L,x,d,O,t,l.mono s,q,fun v B e Y f n=>k v B e Y (s.trans f) n⟩
  | false=>rw [if_neg bS] at q ⊢;exact⟨F',m',L,x,d,O,t,l.mono s,q,fun v B e Y f n=>k v B e Y (s.trans f) n⟩
variable {fs:fS}
theorem BZ:PA X [] (nh X.K aN):=g_.imp' fun M H Q h=>by obtain⟨F,m,L,S,d,O,r,l,q,k⟩:=h;cases q;exact k [] F m H .refl r rfl
theorem An (b:PE X e (tV X.K y)) (c:PA X T (nh X.K fs)) (t:starEach (e::T) X.env=(false,eval e X.env)::starEach T X.env:=by rfl):PA X (e::T) (nh X.K (aH y fs)):=
 (eW b c t).imp' fun M H Q z=>by obtain⟨F,m,L,S,d,O,r,l,q,k⟩:=z;obtain⟨x,h,n,q⟩:=ah q;obtain⟨xs,o,f,q⟩:=ah q;cases q;refine⟨F,m,L,S,x,h,r,l,n,fun v C p I s i u=>?_⟩;refine⟨C,p,L,h,xs,O,i,l.mono s,f,fun U B w Y a j g=>?_⟩;exact k (v::U) B w Y (s.trans a) j ⟨v,U,rfl,RP.mono a u,g⟩
noncomputable def few (xs:List q):Bool:=decide (xs.length≤1000000)
theorem j8 {q:Type}{xs:List q} (h:few xs=true):xs.length≤sizeLine:=aM (of_decide_eq_true h) (by decide)
noncomputable def az (a:fS):EV:=fun L S=>aF (a L S) fun xs h=>if few xs=true then some (.tup xs,h) else none
noncomputable def aS (a:fS):EV:=fun L S=>aF (a L S) fun xs h=>if few xs=true then some (.lst xs,h) else none
noncomputable def cu (a:fS):EE:=fun L S=>aF (a L S) fun xs h=>if few xs=true then some (.ref h.length,h++[.lst (xs.map .p)]) else none
theorem IY {t} (h:PA X T (nh X.K fs)):PE X (.Tuple T t N) (tV X.K (az fs)):=(qv h).imp' fun M H Q z=>by
 obtain⟨F,m,L,S,d,O,r,l,q,k⟩:=z;obtain⟨xs,c,e,q⟩:=ah q;split at q
 .rename_i f;cases q;refine⟨F,m,L,S,xs,O,r,l,e,fun U C s I b n a=>⟨by rw [<- a.length];exact j8 f,fun p x=>?_⟩⟩;exact k (.ref p) C s _ (b.trans (bU x).stp) (n.grow (bU x)) (.newTup x a)
 .cases q
theorem Jc (h:PA X T (nh X.K fs)):PE X (.List T N) (tV X.K (aS fs)):=(yQ h).imp' fun M H Q z=>by
 obtain⟨F,m,L,S,d,O,r,l,q,k⟩:=z;obtain⟨xs,c,e,q⟩:=ah q;split at q
 .rename_i f;cases q;refine⟨F,m,L,S,xs,O,r,l,e,fun U C s I b n a=>⟨by rw [<- a.length];exact j8 f,fun p x=>?_⟩⟩;exact k (.ref p) _ s _ (b.trans (cq x).stp) (n.grow (cq x)) (.newLst x a)
 .cases q
theorem B4 (h:PA X T (nh X.K fs)):PE X (.List T N) (tE X.K (cu fs)):=(yQ h).imp' fun M H Q z=>by
 obtain⟨F,m,L,S,d,O,r,l,q,k⟩:=z;obtain⟨xs,f,b,q⟩:=ah q;split at q
 .rename_i c;cases q;refine⟨F,m,L,S,xs,f,r,l,b,fun U C x I t s e=>⟨by rw [<- e.length];exact j8 c,fun p a=>?_⟩⟩;have n:Stp C x I C (x++[p]) (cc I p (.lst U)):=gg a;refine k (.ref p) C (x++[p]) _ (t.trans n) (s.own a ⟨U,aE,dj.ofP (ci.mono n e)⟩) ⟨p,rfl,?_⟩;rw [<- s.len,fV (Nat.le_refl _)];simp
 .cases q
noncomputable def rC (K:FG) (g:List P->Option P):List V->Hp->VK->Prop:=fun xs H Q=>∃F s d,(∀a,F a->H a≠none)/\ci K F H s xs/\g s=some d/\∀v F' H',Grow F H F' H'->RP K F' H' d v->Q v H'
theorem ul (h:tV X.K (af g fs) M H t):nh X.K fs M H fun U I=>rC X.K g U I t:=by
 obtain⟨F,m,L,S,d,O,r,l,q,k⟩:=h;obtain⟨xs,c,s,q⟩:=ah q;cases e:g xs with
 | none=>rw [e] at q;cases q
 | some z=>rw [e] at q;cases q;exact⟨F,m,L,S,xs,_,r,l,s,fun U C n I b a f=>⟨C,xs,_,a.ft,f,e,fun v B Y x p=>k v B n Y (b.trans x.stp) (a.grow x) p⟩⟩
theorem x6 {x:Str}{p:Pos}{id:String}{g:List P->Option P} (c:c6 X (.builtin id) (rC X.K g)) (n:Gl X x) (m:X.mg x=none) (v:bootBuiltins x=some (.builtin id)) (a:PA X (e::T) (nh X.K fs)) (k:x≠"__name__":=by decide) (d:(x == ("__debug__":Str))=false:=by decide)
  (s:starEach (e::T) X.env=(false,eval e X.env)::starEach T X.env:=by rfl) (l:(backTo N (starEach T X.env)).any (·.1)=false:=by rfl):PE X (.Call (.Name x p) (e::T) [] N) (tV X.K (af g fs)):=
 (kz c n m v a k d s l).imp' fun _ _ _ h=>ul h
theorem ue (c:c6 X (.type k) (rC X.K g)) (n:Gl X x) (m:X.mg x=none) (v:bootBuiltins x=some (.type k)) (a:PA X (e::T) (nh X.K fs)) (f:x≠"__name__":=by decide) (d:(x == ("__debug__":Str))=false:=by decide)
  (s:starEach (e::T) X.env=(false,eval e X.env)::starEach T X.env:=by rfl) (l:(backTo N (starEach T X.env)).any (·.1)=false:=by rfl):PE X (.Call (.Name x p) (e::T) [] N) (tV X.K (af g fs)):=
 (lf c n m v a f d s l).imp' fun _ _ _ h=>ul h
noncomputable def HW (K:FG) (g:List P->Option P):Sp:=fun U H Q _=>rC K g U H Q
theorem Fx (G:FnOk X.prog X.w X.K X.mg X.base pI k f t ps (HW X.K g)) (j:Room k X.A) (w:Gl X x) (i:X.mg x=some (.ref f)) (u:PySem.W.keepIn X.K (.ref f)=true) (c:Binds X.K t ps [])
  (b:PA X (e::T) (nh X.K fs)) (d:(x == ("__debug__":Str))=false:=by decide) (v:starEach (e::T) X.env=(false,eval e X.env)::starEach T X.env:=by rfl) (a:(backTo N (starEach T X.env)).any (·.1)=false:=by rfl) :
  PE X (.Call (.Name x p) (e::T) [] N) (tV X.K (af g fs)):=
 (qw G j w i u c .nil o6 b d v a).imp' fun M H Q h=>by obtain⟨F,m,L,S,n,O,r,l,q,k⟩:=ul h;exact⟨F,m,L,S,n,O,r,l,q,fun xs F' m' H' s y p=>by show HW X.K g (xs++[]) H' Q E0;rw [List.append_nil];exact k xs F' m' H' s y p⟩
end
section
variable {X:Cx}{a b e:Expr}{l:Stmt}{ck bs cs:List Stmt}{f g:ES}{fe:EE}{z:EB}{N:Pos}
theorem IP:ms X [] (ku X.K ei):=A3.imp' fun D M H h=>by obtain⟨F,m,L,S,f,x,O,r,l,q,k⟩:=h;cases q;exact k M F m H .refl r l
theorem Fh (y:PS X l (ku X.K f)) (z:ms X ck (ku X.K g)):ms X (l::ck) (ku X.K (ac f g)):=(yG y z).imp' fun D M H o=>by
 obtain⟨F,m,L,S,u,w,O,r,h,q,k⟩:=o;cases e:f L S with
 | none=>rw [show ac f g L S=none by unfold ac;rw [e]] at q;cases q
 | some x=>
  obtain⟨i,p,v⟩:=x;cases i with
  | nx=>
   have b:g p v=some (u,w,O):=by have:=q;unfold ac at this;rw [e] at this;exact this
   exact⟨F,m,L,S,.nx,p,v,r,h,e,fun a C n I t c s=>⟨C,n,p,v,u,w,O,c,s,b,fun j B P Y E A K=>k j B P Y (t.trans E) A K⟩⟩
  | rt d=>
   have b:some (Fl.rt d,p,v)=some (u,w,O):=by have:=q;unfold ac at this;rw [e] at this;exact this
   cases b;exact⟨F,m,L,S,_,_,_,r,h,e,fun a C n I t c s=>k a C n I t c s⟩
  | bk=>
   have b:some (Fl.bk,p,v)=some (u,w,O):=by have:=q;unfold ac at this;rw [e] at this;exact this
   cases b;exact⟨F,m,L,S,_,_,_,r,h,e,fun a C n I t c s=>k a C n I t c s⟩
  | ct=>
   have b:some (Fl.ct,p,v)=some (u,w,O):=by have:=q;unfold ac at this;rw [e] at this;exact this
   cases b;exact⟨F,m,L,S,_,_,_,r,h,e,fun a C n I t c s=>k a C n I t c s⟩
theorem IN (h:PS X l (ku X.K f)):ms X [l] (ku X.K f):=A2 h
theorem IL (h:PE X e (tE X.K fe)):PS X (.Return (some e) N) (ku X.K (aK fe)):=(Dm h).imp' fun D M H z=>by obtain⟨F,m,L,S,b,n,O,r,l,q,k⟩:=z;obtain⟨d,f,x,q⟩:=ah q;cases q;exact⟨F,m,L,S,d,O,r,l,x,fun v F' m' H' s a p=>k M F' m' H' s a (l.mono s) v p⟩
theorem Fg (h:PE X e (tE X.K fe)) (a:swapsWith e none N.line X.env=pure false:=by rfl):PS X (.Expr e N) (ku X.K (bL fe)):=(A4 h a).imp' fun D M H z=>by obtain⟨F,m,L,S,c,f,O,r,l,q,k⟩:=z;obtain⟨d,b,x,q⟩:=ah q;cases q;exact⟨F,m,L,S,d,O,r,l,x,fun v F' m' H' s n p=>k M F' m' H' s n (l.mono s)⟩
theorem Av (i:Nat) (n:X.N.Nodup) (h:PE X e (tE X.K fe)) (b:X.N[i]? = some x:=by rfl) (w:Loc X.env.scope x:=by first | exact Or.inl rfl | exact Or.inr rfl) (c:swapsWith e (some (.Name x t)) N.line X.env=pure false:=by rfl)
  (f:X.fn x=true\/X.env.scope.names.lookup x=some .local:=by first | exact .inl rfl | exact .inr rfl | assumption):PS X (.Assign [.Name x t] e N) (ku X.K (ak i fe)):=
 (Dl n b w h c f).imp' fun D M H z=>by obtain⟨F,m,L,S,y,g,O,r,l,q,k⟩:=z;obtain⟨d,j,a,q⟩:=ah q;cases q;exact⟨F,m,L,S,d,O,r,l,a,fun v F' m' H' s u p=>k (M.set i (some v)) F' m' H' s u ((l.mono s).set p i)⟩
theorem K6 (i:PT X c (tQ X.K z)) (w:ms X bs (ku X.K f)) (u:ms X cs (ku X.K g)):PS X (.If c bs cs N) (ku X.K (dY z f g)):=(Gh i w u).imp' fun D M H j=>by
 obtain⟨F,m,L,S,p,t,O,r,l,q,k⟩:=j;obtain⟨c,x,d,q⟩:=ah q;refine⟨F,m,L,S,c,x,r,l,d,fun F' m' H' s v=>?_⟩;cases c with
 | true=>rw [if_pos rfl] at q ⊢;exact⟨F',m',L,x,p,t,O,v,l.mono s,q,fun h B e Y b n a=>k h B e Y (s.trans b) n a⟩
 | false=>rw [if_neg bS] at q ⊢;exact⟨F',m',L,x,p,t,O,v,l.mono s,q,fun h B e Y b n a=>k h B e Y (s.trans b) n a⟩
theorem CF:PS X l (ku X.K nl):=yH.imp' fun D M H z=>by obtain⟨F,m,L,S,f,x,O,r,h,q,k⟩:=z;cases q
inductive gTI (K:FG) (g:i4) (x:V) (σ:L2.St) (H:Hp) (Q:L2.St->Hp->Prop):Prop
 | mk (F:Aa) (m:List Addr) (L:Lc) (v:P) (L':Lc) (h0_:RL K F H m σ L) (h1_:RP K F H v x) (h2_:g v L=some L') (h3_:∀σ',RL K F H m σ' L'->Q σ' H):gTI K g x σ H Q
noncomputable def gT (K:FG) (g:i4):TG:=fun x M H Q=>gTI K g x M H Q
theorem _root_.L2.PG.imp' (h:PG X J t) (i:∀v M H Q,k v M H Q->t v M H Q):PG X J k:=fun p s M H v u Q I r q=>h p s M H v u Q I r (i v M H Q q)
theorem Ek (i:Nat) (h:X.N.Nodup) (a:X.N[i]? = some x:=by rfl) (e:Loc X.env.scope x:=by first | exact Or.inl rfl | exact Or.inr rfl) (f:X.fn x=true\/X.env.scope.names.lookup x=some .local:=by first | exact .inl rfl | exact .inr rfl | assumption) :
  PG X (.Name x N) (gT X.K (ag i)):=(Ba h a e f).imp' fun v M H Q z=>by
 obtain⟨F,m,L,d,s,l,p,q,k⟩:=z;cases q;exact k _ (l.set (d:=.p d) p i)
noncomputable def B3 (K:FG) (J:It) (U:List P) (F:Aa) (m:List Addr) (H:Hp):Prop:=∀B e Y,Stp F m H B e Y ->
 (∀(i:Nat) v,U[i]? = some v->J.go i Y/\∀x h,J.yld i Y x h->∃a,Grow B Y a h/\RP K a h v x)/\J.stop U.length Y
inductive tII (K:FG) (f:fS) (σ:L2.St) (H:Hp) (R:It->Hp->Prop):Prop
 | mk (F:Aa) (m:List Addr) (L:Lc) (S:aD) (vs:List P) (S':aD) (h0_:Rel K F H m S) (h1_:RL K F H m σ L) (h2_:f L S=some (vs,S')) (h3_:∀J F' m' H',Stp F m H F' m' H'->Rel K F' H' m' S'->B3 K J vs F' m' H'->R J H'):tII K f σ H R
noncomputable def tI (K:FG) (f:fS):TI:=fun M H R=>tII K f M H R
theorem IQ {tg iter:Expr}{fi:fS}{g:i4}{b:List Stmt}{Q:ES} (hp:PassesOwn (model X.prog X.w) X.A X.env X.xe) (hc:X.calm=true) (hi:PI X tg iter (tI X.K fi)) (hg:PG X tg (gT X.K g)) (hb:ms X b (ku X.K Q))
  (hs:∀x,foldedSetIterable iter X.env x=pure x:=by intro _;rfl):PS X (.For tg iter b [] N) (ku X.K (b7 fi g Q)):=
 (Dn hp hc hi hg hb hs).imp' fun D M H hz=>by
  obtain⟨F,m,L,S,fl,L',O,r,l,q,k⟩:=hz;obtain⟨U,S1,e1,q⟩:=ah q;refine⟨F,m,L,S,U,S1,r,l,e1,fun J C K I E r1 it=>?_⟩;refine⟨fun i n f Y=>n=U.length-i/\i≤U.length/\∃B a L2 s,Stp C K I B a Y/\Rel X.K B Y a s/\RL X.K B Y a f L2/\aO g Q (U.drop i) L2 s=some (fl,L',O),
   ⟨U.length,rfl,Nat.zero_le _,C,K,L,S1,.refl,r1,l.mono E,by rw [mB];exact q⟩,?_⟩
  rintro i n f Y ⟨rfl,hi,B,a,L2,s,s2,r2,l2,h⟩;obtain⟨go,o⟩:=it B a Y s2;by_cases t:i < U.length
  .right;have hv:U[i]? = some U[i]:=by simp [t]
   rw [uc t] at h;obtain⟨hgo,hy⟩:=go i _ hv;refine⟨hgo,fun v c=>∃n',n' < U.length-i/\(n'=U.length-(i+1)/\i+1≤U.length/\∃B a L2 s,Stp C K I B a c/\Rel X.K B c a s/\RL X.K B c a v L2/\aO g Q (U.drop (i+1)) L2 s=some (fl,L',O)),fun _ _ z=>z,fun x c y=>?_⟩;obtain⟨T,gr,p3⟩:=hy x c y;unfold aO at h;cases eg:g U[i] L2 with
   | none=>rw [eg] at h;cases h
   | some V=>
    rw [eg] at h;dsimp only at h;refine⟨T,a,L2,U[i],V,l2.mono gr.stp,p3,eg,fun v l3=>?_⟩;have G:Stp C K I T a c:=s2.trans gr.stp;have r3:=r2.grow gr;cases eb:Q V s with
    | none=>rw [eb] at h;cases h
    | some z=>
     obtain⟨p,W,Z⟩:=z;rw [eb] at h;refine⟨T,a,V,s,p,W,Z,r3,l3,eb,fun w u P H4 R A j=>?_⟩;cases p with
     | nx=>exact⟨U.length-(i+1),by lia,rfl,t,u,P,W,Z,G.trans R,A,j,h⟩
     | ct=>exact⟨U.length-(i+1),by lia,rfl,t,u,P,W,Z,G.trans R,A,j,h⟩
     | bk=>cases h;exact k w u P H4 (E.trans (G.trans R)) A j
     | rt d=>cases h;exact k w u P H4 (E.trans (G.trans R)) A j
  .left;have e:i=U.length:=by lia
   subst e;rw [pX] at h;cases h;exact⟨o,k f B a Y (E.trans s2) r2 l2⟩
end
theorem Stp.toGrow (s:Stp F [] H F' m' H') (f:∀a,F' a->H' a≠none):Grow F H F' H':=
 ⟨fun b o h=>s.oth b o h (by simp),s.frz,fun b h=>by
  rcases s.nf b h with q | q | q
  .exact .inl q
  .exact .inr ⟨q,f b h⟩
  .simp at q⟩
theorem jO {q:Prop}{β:Type}{d:β} (h:(none:Option β)=some d):q:=nomatch h
noncomputable def fZ (n:Nat):Bool:=decide (n≤1000000)
theorem gn (h:fZ n=true):n≤sizeLine:=aM (of_decide_eq_true h) (by decide)
section
variable {X:Cx}
noncomputable def rD:P->P->Option P
 | .int i,.int j=>some (.int (i+j))
 | .str x,.str y=>if fZ (x.length+y.length)=true then some (.str (x++y)) else none
 | .tup xs,.tup s=>if (!xs.isEmpty && fZ (xs.length+s.length))=true then some (.tup (xs++s)) else none
 | .lst xs,.lst s=>if fZ (xs.length+s.length)=true then some (.lst (xs++s)) else none
 | _,_=>none
theorem GH:mu X (binaryOp .Add) rD:=by
 intro n s M H x y v u Q I l o h;obtain⟨F,D,t,d,G,w,g,q,k⟩:=h;cases D with
 | int i=>
  cases t with
  | int j=>cases q;cases (show x=.int i from w);cases (show y=.int j from g);exact DJ n s M H _ _ v u Q I l o ⟨i,j,rfl,rfl,k _ F H .refl rfl⟩
  | _=>exact jO q
 | str i=>
  cases t with
  | str j=>
   simp only [rD] at q;split at q
   .rename_i c;cases q;cases (show x=.str i from w);cases (show y=.str j from g);exact ux n s M H _ _ v u Q I l o ⟨i,j,rfl,rfl,gn c,k _ F H .refl rfl⟩
   .cases q
  | _=>exact jO q
 | tup A=>
  cases t with
  | tup T=>
   simp only [rD] at q;split at q
   .rename_i c;rw [Bool.and_eq_true] at c;cases q;obtain⟨a,xs,rfl,S,r⟩:=w;obtain⟨b,P,rfl,K,m⟩:=g;have B:=r.length;have C:=m.length;have E:xs≠[]:=fun z=>by
     subst z;have:A=[]:=iB B;subst this;simp at c
    refine Bi n s M H _ _ v u Q I l o ⟨a,b,xs,P,rfl,rfl,S.sq,K.sq,E,by rw [<- B,<- C];exact gn c.2,fun z=>?_,fun _ p f=>?_⟩
    .subst z;have e:T=[]:=iB C;subst e;refine k _ F H .refl ?_;rw [List.append_nil];exact⟨a,xs,rfl,S,r⟩
    .exact k _ F _ (bU f) (.newTup f (r.append m))
   .cases q
  | _=>exact jO q
 | lst A=>
  cases t with
  | lst T=>
   simp only [rD] at q;split at q
   .rename_i c;cases q;obtain⟨a,xs,rfl,S,r⟩:=w;obtain⟨b,P,rfl,K,m⟩:=g;exact DI n s M H _ _ v u Q I l o ⟨a,b,xs,P,rfl,rfl,S.2,K.2,by rw [<- r.length,<- m.length];exact gn c,fun p f=>k _ _ _ (cq f) (.newLst f (r.append m))⟩
   .cases q
  | _=>exact jO q
 | _=>exact jO q
noncomputable def As (c:Int->Int->Bool) (g:Int->Int->P):P->P->Option P
 | .int i,.int j=>if c i j=true then some (g i j) else none
 | _,_=>none
@[simp] theorem BN (c:Int->Int->Bool) (g:Int->Int->P) (i j:Int):As c g (.int i) (.int j)=if c i j=true then some (g i j) else none:=rfl
theorem sm {f:Value->Value->Sem Value}{C:Int->Int->Prop}{a:Int->Int->V}{c:Int->Int->Bool}{g:Int->Int->P} (o:io X f (rI C a)) (b:∀i j,c i j=true->C i j) (m:∀K F H i j,RP K F H (g i j) (a i j)):mu X f (As c g):=by
 intro p s M H x y v u Q I l z h;obtain⟨F,e,n,d,S,t,w,q,k⟩:=h;cases e with
 | int i=>
  cases n with
  | int j=>
   rw [BN] at q;split at q
   .rename_i r;cases q;cases (show x=.int i from t);cases (show y=.int j from w);exact o p s M H _ _ v u Q I l z ⟨i,j,rfl,rfl,b i j r,k _ F H .refl (m _ _ _ _ _)⟩
   .cases q
  | _=>exact jO q
 | _=>exact jO q
theorem nq (h:io X f (AY k)):io X f (rI (fun _ _=>True) k):=fun p s M H x y v u Q I r n ⟨i,j,e,a,_,q⟩=>h p s M H x y v u Q I r n ⟨i,j,e,a,q⟩
noncomputable abbrev x2:Int->Int->Bool:=fun _ _=>true
noncomputable abbrev rj:=As x2 fun i j=>.int (i-j)
theorem Gs:mu X (binaryOp .Sub) rj:=sm (nq DC) (fun _ _ _=>trivial) fun _ _ _ _ _=>rfl
noncomputable abbrev Dr:Int->Int->Bool:=fun _ j=>decide (0 < j) && decide (j < 1152921504606846976)
theorem y1:io X (binaryOp .FloorDiv) (rI (fun _ j=>0 < j/\j < 1152921504606846976) fun i j=>.int (i / j)):=H_ fun i j _ _ _ _ _ h q=>by have a:(0:Int) < j:=h.1;have e:j < 1152921504606846976:=h.2;have x:j.natAbs.log2 < 9000:=cj ((Nat.log2_lt (by lia)).mpr (show j.natAbs < 2 ^ 60 by lia)) (by decide);exact floordiv_int (by lia) (by rw [Int.fdiv_eq_ediv_of_nonneg i (by lia)];exact q) (.inl (PyProof.noPylong_of_log2 x))
noncomputable abbrev aC:=As Dr fun i j=>.int (i / j)
theorem Bj:mu X (binaryOp .FloorDiv) aC:=sm y1 (fun i j h=>by rw [Bool.and_eq_true] at h;exact⟨of_decide_eq_true h.1,of_decide_eq_true h.2⟩) fun _ _ _ _ _=>rfl
noncomputable abbrev aV:=As (fun _ j=>decide (0 < j)) fun i j=>.int (i % j)
theorem Gy:mu X (binaryOp .Mod) aV:=sm DG (fun i j h=>of_decide_eq_true h) fun _ _ _ _ _=>rfl
noncomputable abbrev BM:=As (fun i j=>decide (0≤j) && decide (j≤1000000) && decide (i.natAbs < 2 ^ 64)) fun i j=>.int (i ^ j.toNat)
theorem Gu:mu X (binaryOp .Pow) BM:=sm DF (fun i j h=>by simp only [Bool.and_eq_true] at h;exact⟨of_decide_eq_true h.1.1,of_decide_eq_true h.1.2,of_decide_eq_true h.2⟩) fun _ _ _ _ _=>rfl
noncomputable abbrev Ar:=As x2 fun i j=>.bl (decide (i < j))
theorem JN:mu X (compareOp .Lt) Ar:=sm (nq Go) (fun _ _ _=>trivial) fun _ _ _ _ _=>rfl
noncomputable abbrev Ex:=As x2 fun i j=>.bl (decide (i≤j))
theorem JO:mu X (compareOp .LtE) Ex:=sm (nq Gp) (fun _ _ _=>trivial) fun _ _ _ _ _=>rfl
noncomputable abbrev E7:=As x2 fun i j=>.bl (decide (j < i))
theorem JP:mu X (compareOp .Gt) E7:=sm (nq Gq) (fun _ _ _=>trivial) fun _ _ _ _ _=>rfl
noncomputable abbrev Ht:=As x2 fun i j=>.bl (decide (j≤i))
theorem JQ:mu X (compareOp .GtE) Ht:=sm (nq Gr) (fun _ _ _=>trivial) fun _ _ _ _ _=>rfl
noncomputable def fq (i j:Int):Bool:=decide (i.natAbs.log2+j.natAbs.log2 < 100000000)
theorem y8 {i j:Int} (h:fq i j=true):IntMulOk i j:=by
 have a:i.natAbs.log2+j.natAbs.log2 < 100000000:=of_decide_eq_true h;have b:∀x:Int,Builtin.Int.intBits x≤x.natAbs.log2+1:=fun x=>by
  unfold Builtin.Int.intBits;split
  .exact Nat.zero_le _
  .exact Nat.le_refl _
 exact IntMulOk.of_le (b i) (b j) (by lia)
theorem Bh:io X (binaryOp .Mult) (rI (fun i j=>IntMulOk i j) fun i j=>.int (i * j)):=H_ fun _ _ _ _ _ _ _ h q=>mul_int q h
noncomputable def dE (x:Str) (n:Nat):Str:=⟨(List.replicate n x.cps).foldl (·++·) #[]⟩
theorem uo (x:Str):dE x 1=x:=by unfold dE;cases x;simp
theorem xp (n:Nat):(List.replicate n (#[]:Array Nat)).foldl (·++·) #[]=#[]:=by
 induction n with
 | zero=>rfl
 | succ n i=>rw [dq,gC];simpa using i
theorem qm (x:Str) (n:Nat) (h:x.length=0):dE x n=x:=by have e:x.cps=#[]:=Array.eq_empty_of_size_eq_zero (by simpa [Str.length] using h);unfold dE;cases x;simp only at e;subst e;rw [xp]
theorem uL (a:Array Nat) (n:Nat):∀b:Array Nat,((List.replicate n a).foldl (·++·) b).size=b.size+n * a.size:=by
 induction n with
 | zero=>intro b;simp
 | succ n i=>intro b;rw [dq,gC,i,Array.size_append,Nat.succ_mul];lia
theorem jN (x:Str) (n:Nat):(dE x n).length=n * x.length:=by unfold dE Str.length;simp only;rw [uL];simp
noncomputable def rk:P->P->Option P
 | .int i,.int j=>if fq i j=true then some (.int (i * j)) else none
 | .str x,.int n=>if (fZ (n.toNat * x.length) && decide (n.natAbs < 1000000))=true then some (.str (dE x n.toNat)) else none
 | .lst xs,.int n=>if (fZ (xs.length * n.toNat) && decide (n.natAbs < 1000000))=true then some (.lst (List.replicate n.toNat xs).flatten) else none
 | _,_=>none
theorem ci.rep (h:ci K F H r xs):∀k:Nat,ci K F H (List.replicate k r).flatten (List.replicate k xs).flatten
 | 0=>rfl
 | k+1=>by rw [dq,dq,g8,g8];exact h.append (ci.rep h k)
theorem Gx:mu X (binaryOp .Mult) rk:=by
 intro r s M H x y v u Q I o S h;obtain⟨F,B,w,d,L,g,l,q,k⟩:=h;cases B with
 | int i=>
  cases w with
  | int j=>
   simp only [rk] at q;split at q
   .rename_i c;cases q;cases (show x=.int i from g);cases (show y=.int j from l);exact Bh r s M H _ _ v u Q I o S ⟨i,j,rfl,rfl,y8 c,k _ F H .refl rfl⟩
   .cases q
  | _=>exact jO q
 | str i=>
  cases w with
  | int n=>
   simp only [rk] at q;split at q
   .rename_i c;rw [Bool.and_eq_true] at c;have E:=of_decide_eq_true c.2;have N:n.toNat * i.length≤1000000:=of_decide_eq_true c.1;have R:=jk;have T:(1000000:Nat)≤sizeLine:=by decide
    cases q;cases (show x=.str i from g);cases (show y=.int n from l);obtain⟨t,rfl⟩:=o;obtain⟨U,rfl⟩:=S;refine PySem.P.mul_str (by have C:decide (n < -(2 ^ 63:Int))=false:=bq (by lia);have D:decide (n ≥ 2 ^ 63)=false:=bq (by lia);rw [C,D];rfl) (fun a b=>?_) (fun a b=>?_) ?_
    .intro z;have O:((i.length:Nat):Int)≤(2 ^ 63-1) / n:=by
      refine (Int.le_ediv_iff_mul_le (by lia)).mpr ?_;have e:((i.length:Nat):Int) * n=((n.toNat * i.length:Nat):Int):=by rw [Int.natCast_mul,Int.toNat_of_nonneg (by lia),Int.mul_comm]
      rw [e];lia
     lia
    .unfold Builtin.Str.tooLong;first
      | exact bq (by rw [mx];lia)
      | (rw [mx];exact bq (by lia))
    .have f:Q (.str (dE i n.toNat)) H:=k _ F H .refl rfl;by_cases K:n < 1
     .rw [if_pos K];have e:n.toNat=0:=by lia
      rw [e] at f;exact⟨by decide,⟨.str Str.empty,H,I.tok _,⟨_,rfl⟩,f⟩⟩
     .rw [if_neg K];by_cases m:(n == 1 || i.length == 0)=true
      .rw [if_pos m];rw [ja] at m;have e:dE i n.toNat=i:=by
        rcases m with m | m
        .have:n=1:=by simpa using m
         subst this;exact uo i
        .exact qm i _ (by simpa using m)
       rw [e] at f;exact⟨.str i,H,I,⟨_,rfl⟩,f⟩
      .rw [if_neg m];refine⟨?_,⟨.str (dE i n.toNat),H,I.tok _,⟨_,rfl⟩,f⟩⟩;have:=jN i n.toNat
       unfold dE at this;rw [this];lia
   .cases q
  | _=>exact jO q
 | lst J=>
  cases w with
  | int n=>
   simp only [rk] at q;split at q
   .rename_i c;rw [Bool.and_eq_true] at c;have E:=of_decide_eq_true c.2;cases q;obtain⟨a,xs,rfl,G,A⟩:=g;cases (show y=.int n from l);exact DD r s M H _ _ v u Q I o S ⟨a,n,xs,rfl,rfl,G.2,by lia,by lia,by rw [<- A.length];exact gn c.1,fun p P=>k _ _ _ (cq P) (.newLst P (A.rep _))⟩
   .cases q
  | _=>exact jO q
 | _=>exact jO q
noncomputable def Kc:P->P->Option P
 | .int i,.int j=>some (.bl (decide (i=j)))
 | .str x,.str y=>some (.bl (decide (x=y)))
 | .bl a,.bl b=>some (.bl (decide (a=b)))
 | _,_=>none
noncomputable def Ew:P->P->Option P
 | .int i,.int j=>some (.bl (!decide (i=j)))
 | .str x,.str y=>some (.bl (!decide (x=y)))
 | .bl a,.bl b=>some (.bl (!decide (a=b)))
 | _,_=>none
theorem lW {i j:Int}:decide (V.int i=V.int j)=decide (i=j):=by
 by_cases h:i=j
 .subst h;simp
 .rw [bq h,bq fun z=>h (V.int.inj z)]
theorem lV:decide (V.str i=V.str k)=decide (i=k):=by
 by_cases h:i=k
 .subst h;simp
 .rw [bq h,bq fun z=>h (V.str.inj z)]
theorem nV:decide (V.bl i=V.bl k)=decide (i=k):=by
 by_cases h:i=k
 .subst h;simp
 .rw [bq h,bq fun z=>h (V.bl.inj z)]
theorem JR:mu X (compareOp .Eq) Kc:=by
 intro p s M H x y v u Q I r f h;obtain⟨F,b,a,d,t,e,n,q,k⟩:=h;cases b with
 | int i=>
  cases a with
  | int j=>cases q;cases (show x=.int i from e);cases (show y=.int j from n);exact y2 p s M H _ _ v u Q I r f ⟨rfl,by rw [lW];exact k _ F H .refl rfl⟩
  | _=>exact jO q
 | str i=>
  cases a with
  | str j=>cases q;cases (show x=.str i from e);cases (show y=.str j from n);exact y2 p s M H _ _ v u Q I r f ⟨rfl,by rw [lV];exact k _ F H .refl rfl⟩
  | _=>exact jO q
 | bl i=>
  cases a with
  | bl j=>cases q;cases (show x=.bl i from e);cases (show y=.bl j from n);exact y2 p s M H _ _ v u Q I r f ⟨rfl,by rw [nV];exact k _ F H .refl rfl⟩
  | _=>exact jO q
 | _=>exact jO q
theorem JM:mu X (compareOp .NotEq) Ew:=by
 intro p s M H x y v u Q I r f h;obtain⟨F,b,a,d,t,e,n,q,k⟩:=h;cases b with
 | int i=>
  cases a with
  | int j=>cases q;cases (show x=.int i from e);cases (show y=.int j from n);exact y0 p s M H _ _ v u Q I r f ⟨rfl,by rw [lW];exact k _ F H .refl rfl⟩
  | _=>exact jO q
 | str i=>
  cases a with
  | str j=>cases q;cases (show x=.str i from e);cases (show y=.str j from n);exact y0 p s M H _ _ v u Q I r f ⟨rfl,by rw [lV];exact k _ F H .refl rfl⟩
  | _=>exact jO q
 | bl i=>
  cases a with
  | bl j=>cases q;cases (show x=.bl i from e);cases (show y=.bl j from n);exact y0 p s M H _ _ v u Q I r f ⟨rfl,by rw [nV];exact k _ F H .refl rfl⟩
  | _=>exact jO q
 | _=>exact jO q
theorem ww {q β:Type}{xs:List q}{s:List β}{i:Int}{d:q} (l:xs.length=s.length) (h:L2.atI xs i=some d):∃j:Nat,xs[j]? = some d/\∀y,s[j]? = some y->L2.atI s i=some y:=by
 unfold L2.atI at h ⊢;rw [l] at h;cases e:xc s.length i with
 | none=>rw [e] at h;cases h
 | some j=>rw [e] at h;exact⟨j,h,fun y x=>x⟩
theorem ci.atI {K:FG}{F:Aa}{H:Hp}{s:List P}{xs:List V}{i:Int}{d:P} (r:ci K F H s xs) (h:L2.atI s i=some d):∃x,L2.atI xs i=some x/\RP K F H d x:=by obtain⟨j,a,n⟩:=ww r.length h;obtain⟨x,e,p⟩:=r.get a;exact⟨x,n x e,p⟩
theorem dj.atI {K:FG}{F:Aa}{H:Hp}{m:List Addr}{s:List D}{xs:List V}{i:Int}{d:D} (r:dj K F H m s xs) (h:L2.atI s i=some d):∃x,L2.atI xs i=some x/\RD K F H m d x:=by obtain⟨j,a,n⟩:=ww r.length h;obtain⟨x,e,p⟩:=r.get a;exact⟨x,n x e,p⟩
noncomputable def bM (k:bz):List bz->List q->Option q
 | h::s,v::U=>if h=k then some v else bM k s U
 | _,_=>none
noncomputable def cd:P->Option bz
 | .int i=>some (.inl i)
 | .str x=>some (.inr x)
 | _=>none
noncomputable def al:P->P->Option P
 | .tup xs,.int i=>L2.atI xs i
 | .lst xs,.int i=>L2.atI xs i
 | .ro xs,.int i=>L2.atI xs i
 | .str x,.int i=>if fZ x.length=true then (L2.atI x.cps.toList i).map fun c=>.str ⟨#[c]⟩ else none
 | .dct s U,y=>match cd y with
  | some k=>bM k s U
  | none=>none
 | _,_=>none
theorem k7:∀{s:List (bz×V)}{a:List P}{d:P},ci K F H a (s.map (·.2))->bM k (s.map (·.1)) a=some d->∃v,fL s k=some v/\RP K F H d v
 | [],a,d,r,h=>by cases a <;> exact jO h
 | (f,v)::s,[],d,r,h=>jO h
 | (f,v)::s,u::a,d,r,h=>by
  obtain⟨x,g,e,p,b⟩:=r;rw [List.map_cons] at e;injection e with c m;simp only [List.map_cons,bM] at h;by_cases n:f=k
  .rw [if_pos n] at h;cases h;exact⟨v,gE (p:=(f,v)) n,by rw [show v=x from c];exact p⟩
  .rw [if_neg n] at h;rw [<- m] at b;obtain⟨w,t,q⟩:=k7 b h;exact⟨w,by rw [fK (p:=(f,v)) n];exact t,q⟩
theorem gJ (h:cd t=some k) (r:RP K F H t v):v=kV k:=by
 cases t with
 | int i=>cases h;exact r
 | str x=>cases h;exact r
 | _=>exact jO h
theorem zn (r:X.A.units+1 < cLine):Ap X (fun x y H Q=>∃a v,x=.ref a/\iX H a y (some v)/\(∃k,H a=some (.dK k))/\Q v H):=by
 intro f l p s M H x y v u Q I d i h m;obtain⟨a,w,rfl,g,⟨k,c⟩,q⟩:=h;cases d;have n:∃o,s.heap.get? a=some o/\o.ExactDict:=by obtain⟨_,_,_,_,o,_,_,e,n,_⟩:=I.hok a _ c;exact⟨o,e,n⟩
 obtain⟨o,e,n⟩:=n;exact tail_any ⟨o,e,n.1⟩ slot_dict_getitem.lookup (pj r I g i fun z j b t=>⟨w,H,b,t,q⟩) m
theorem KD (N:X.A.units+1 < cLine):Ap X (rP X.K al):=by
 intro f l b s M H x n v u Q I S K h g;obtain⟨F,E,t,d,R,j,o,q,k⟩:=h;cases E with
 | tup m=>
  cases t with
  | int i=>obtain⟨a,xs,rfl,P,r⟩:=j;cases (show n=.int i from o);obtain⟨z,e,p⟩:=r.atI (show L2.atI m i=some d from q);exact Eb f l b s M H _ _ v u Q I S K ⟨a,xs,i,z,rfl,rfl,P.sq,e,k z F H .refl p⟩ g
  | _=>exact jO q
 | lst m=>
  cases t with
  | int i=>obtain⟨a,xs,rfl,P,r⟩:=j;cases (show n=.int i from o);obtain⟨z,e,p⟩:=r.atI (show L2.atI m i=some d from q);exact qH f l b s M H _ _ v u Q I S K ⟨a,xs,i,z,rfl,rfl,P.sq,e,k z F H .refl p⟩ g
  | _=>exact jO q
 | ro m=>
  cases t with
  | int i=>obtain⟨a,xs,rfl,P,r⟩:=j;cases (show n=.int i from o);obtain⟨z,e,p⟩:=r.atI (show L2.atI m i=some d from q);exact qH f l b s M H _ _ v u Q I S K ⟨a,xs,i,z,rfl,rfl,P.sq,e,k z F H .refl p⟩ g
  | _=>exact jO q
 | str z=>
  cases t with
  | int i=>
   cases (show x=.str z from j);cases (show n=.int i from o);simp only [al] at q;split at q
   .rename_i L;cases e:L2.atI z.cps.toList i with
    | none=>rw [e] at q;exact jO q
    | some c=>rw [e] at q;cases q;exact Ec f l b s M H _ _ v u Q I S K ⟨z,i,c,rfl,rfl,gn L,e,k _ F H .refl rfl⟩ g
   .cases q
  | _=>exact jO q
 | dct T m=>
  obtain⟨a,C,rfl,y,D,J,r⟩:=j;simp only [al] at q;cases A:cd t with
  | none=>rw [A] at q;exact jO q
  | some O=>rw [A] at q;dsimp only at q;subst J;obtain⟨w,G,p⟩:=k7 r q;have B:=gJ A o;subst B;exact zn N f l b s M H _ _ v u Q I S K ⟨a,w,rfl,by rw [<- G];exact iX.k D,⟨C,D⟩,k w F H .refl p⟩ g
 | _=>exact jO q
theorem K_ {a b:Expr}{y Q:EV}{N:Pos} (u:X.A.units+1 < cLine) (x:PE X a (tV X.K y)) (e:PE X b (tV X.K Q)) (s:kQ b):PE X (.Subscript a b N) (tV X.K (ab al y Q)):=
 (yR (KD u) x e s).imp' fun _ _ _ h=>qj h
end
section
variable {X:Cx}
theorem m9:∀{s:List (bz×V)}{a:List D}{d:D},dj K F H m a (s.map (·.2))->bM k (s.map (·.1)) a=some d->∃v,fL s k=some v/\RD K F H m d v
 | [],a,d,r,h=>by cases a <;> exact jO h
 | (f,v)::s,[],d,r,h=>jO h
 | (f,v)::s,g::a,d,r,h=>by
  obtain⟨x,i,e,p,b⟩:=r;rw [List.map_cons] at e;injection e with c t;simp only [List.map_cons,bM] at h;by_cases n:f=k
  .rw [if_pos n] at h;cases h;exact⟨v,gE (p:=(f,v)) n,by rw [show v=x from c];exact p⟩
  .rw [if_neg n] at h;rw [<- t] at b;obtain⟨w,q,u⟩:=m9 b h;exact⟨w,by rw [fK (p:=(f,v)) n];exact q,u⟩
noncomputable def tX (r:EE) (k:EV):EE:=fun L S=>aF (r L S) fun d x=>aF (k L x) fun y h=>match d with
 | .p v=>(al v y).map fun z=>(.p z,h)
 | .ref i=>match h[i]? with
  | some (.lst s)=>(match y with
   | .int j=>(L2.atI s j).map fun z=>(z,h)
   | _=>none)
  | some (.fz v)=>(al v y).map fun z=>(.p z,h)
  | some (.dct a U)=>(match cd y with
   | some k=>(bM k a U).map fun z=>(z,h)
   | none=>none)
  | _=>none
theorem Jf {a b:Expr}{y:EE}{Q:EV}{N:Pos} (hu:X.A.units+1 < cLine) (ha:PE X a (tE X.K y)) (hb:PE X b (tV X.K Q)) (hs:kQ b):PE X (.Subscript a b N) (tE X.K (tX y Q)):=
 (yR (((KD hu).or qH).or (zn hu)) ha hb hs).imp' fun M H h hz=>by
  obtain⟨F,m,L,S,d,O,r,l,q,k⟩:=hz;obtain⟨x,S1,A,q⟩:=ah q;obtain⟨e,K,e2,q⟩:=ah q;refine⟨F,m,L,S,x,S1,r,l,A,fun v C m1 I c r1 p1=>?_⟩;refine⟨C,m1,L,S1,e,K,r1,l.mono c,e2,fun u B R Y o f W=>?_⟩;have px:=RD.mono o p1;have s:∀w:P,RP X.K B Y w v->(al w e).map (fun z=>(D.p z,K))=some (d,O)->rP X.K al v u Y h:=fun w pw q=>by
   cases g:al w e with
   | none=>rw [g] at q;cases q
   | some z=>rw [g] at q;cases q;exact⟨B,w,e,z,f.ft,pw,W,g,fun t F3 H3 gr Z=>k t F3 R H3 (c.trans (o.trans gr.stp)) (f.grow gr) Z⟩
  cases x with
  | p w=>exact .inl (.inl (s w px q))
  | ref i=>
   obtain⟨a,rfl,hm⟩:=px;dsimp only at q;cases T:K[i]? with
   | none=>rw [T] at q;cases q
   | some so=>
    rw [T] at q;have V:=f.obj i a so hm T;cases so with
    | fz w=>exact .inl (.inl (s w V q))
    | dct ks U=>
     dsimp only at q;obtain⟨n,hk,ek,ra⟩:=V;cases E:cd e with
     | none=>rw [E] at q;cases q
     | some J=>
      rw [E] at q;dsimp only at q;subst ek;cases g:bM J (n.map (·.1)) U with
      | none=>rw [g] at q;cases q
      | some z=>rw [g] at q;cases q;obtain⟨w,A,p⟩:=m9 ra g;have G:=gJ E W;subst G;exact .inr ⟨a,w,rfl,by rw [<- A];exact iX.k hk,⟨n,hk⟩,k w B R Y (c.trans o) f p⟩
    | ins _ _ _=>cases q
    | exc _=>cases q
    | dtt _ _=>cases q
    | lst ds=>
     dsimp only at q;cases e with
     | int j=>
      dsimp only at q;obtain⟨xs,hH,rs⟩:=V;cases g:L2.atI ds j with
      | none=>rw [g] at q;cases q
      | some z=>rw [g] at q;cases q;obtain⟨t,e3,Z⟩:=rs.atI g;cases (show u=.int j from W);exact .inl (.inr ⟨a,xs,j,t,rfl,rfl,gQ.of hH,e3,k t B R Y (c.trans o) f Z⟩)
     | _=>cases q
noncomputable def cE:P->Option Nat
 | .tup xs=>some xs.length
 | .lst xs=>some xs.length
 | .ro xs=>some xs.length
 | .str x=>if fZ x.length=true then some x.length else none
 | _=>none
noncomputable def b_:D->aD->Option Nat
 | .p v,_=>cE v
 | .ref i,S=>match S[i]? with
  | some (.lst d)=>some d.length
  | some (.fz v)=>cE v
  | _=>none
noncomputable def dB (r:EE):EV:=fun L S=>aF (r L S) fun d h=>(b_ d h).map fun n=>(.int n,h)
theorem vR {F:Aa}{H:Hp}{w:P}{v:V}{n:Nat}{Q:VK} (p:RP X.K F H w v) (h:cE w=some n) (q:Q (.int n) H) :
  (∃p y,[v]=[V.ref p]/\(gQ X.K H p y\/kT X.K H p y)/\Q (.int y.length) H)\/(∃z,[v]=[V.str z]/\z.length≤sizeLine/\Q (.int z.length) H):=by
 cases w with
 | tup d=>obtain⟨a,xs,rfl,t,r⟩:=p;cases h;exact .inl ⟨a,xs,rfl,.inr t.sq,by rw [<- r.length];exact q⟩
 | lst d=>obtain⟨a,xs,rfl,t,r⟩:=p;cases h;exact .inl ⟨a,xs,rfl,.inl t.sq,by rw [<- r.length];exact q⟩
 | ro d=>obtain⟨a,xs,rfl,t,r⟩:=p;cases h;exact .inl ⟨a,xs,rfl,.inl t.sq,by rw [<- r.length];exact q⟩
 | str x=>
  cases (show v=.str x from p);simp only [cE] at h;split at h
  .rename_i c;cases h;exact .inr ⟨x,rfl,gn c,q⟩
  .cases h
 | _=>exact jO h
theorem Jd (K:Gl X "len") (s:X.mg "len"=none) (z:PE X e (tE X.K fe)) (b:starEach [e] X.env=[(false,eval e X.env)]:=by rfl):PE X (.Call (.Name "len" p) [e] [] N) (tV X.K (dB fe)):=
 (kz (rJ.or rH) K s PySem.boot_len (eW z g_ (by rw [b];rfl)) (by decide) (by decide) (by rw [b];rfl) rfl).imp' fun M H Q P=>by
  obtain⟨F,m,L,S,d,O,r,l,q,k⟩:=P;obtain⟨x,f,g,q⟩:=ah q;refine⟨F,m,L,S,x,f,r,l,g,fun v C A I D t c=>?_⟩;cases h:b_ x f with
  | none=>rw [h] at q;cases q
  | some n=>
   rw [h] at q;cases q;have y:Q (.int n) I:=k _ C A I D t rfl;cases x with
   | p w=>exact vR c h y
   | ref i=>
    obtain⟨a,rfl,s⟩:=c;simp only [b_] at h;cases T:O[i]? with
    | none=>rw [T] at h;cases h
    | some u=>
     rw [T] at h;have o:=t.obj i a u s T;cases u with
     | fz w=>exact vR o h y
     | dct G U=>cases h
     | ins _ _ _=>cases h
     | exc _=>cases h
     | dtt _ _=>cases h
     | lst E=>cases h;obtain⟨xs,j,B⟩:=o;exact .inl ⟨a,xs,rfl,.inl (gQ.of j),by rw [<- B.length];exact y⟩
noncomputable def c_ (d:D) (S:aD):Option (Nat×List D):=match d with
 | .ref i=>match S[i]? with
  | some (.lst s)=>some (i,s)
  | _=>none
 | _=>none
theorem kA (h:c_ d S=some (i,k)):d=.ref i/\S[i]? = some (.lst k):=by
 unfold c_ at h;split at h
 .split at h
  .rename_i e;cases h;exact⟨rfl,e⟩
  .cases h
 .cases h
noncomputable def a_ (r:EE) (a:EE):EE:=fun L S=>aF (r L S) fun d h=>match c_ d h with
 | none=>none
 | some _=>aF (a L h) fun x e=>match c_ d e with
  | some (i,s)=>if few s=true then some (.p .non,e.set i (.lst (s++[x]))) else none
  | none=>none
theorem AB {o e:Expr}{R fe:EE}{p c:Pos} (ho:PE X o (tE X.K R)) (he:PE X e (tE X.K fe)) (E:starEach [e] X.env=[(false,eval e X.env)]:=by rfl)
  (b:attributeBase o "append" X.env (eval o X.env)=eval o X.env:=by rfl) (f:(p.endLine == c.line)=true:=by rfl):PE X (.Call (.Attribute o "append" p) [e] [] c) (tE X.K (a_ R fe)):=
 (Cd t_ PySem.F.slot_list_append PySem.F.type_list_append o8 ho (eW he g_ (by rw [E];rfl)) b (by rw [E];rfl) f (by rw [E];rfl) rfl).imp' fun M H Q hz=>by
  obtain⟨F,m,L,S,d,O,r,h,q,k⟩:=hz;obtain⟨x,K,e1,q⟩:=ah q;refine⟨F,m,L,S,x,K,r,h,e1,fun v C m1 I s1 Z W=>?_⟩;cases A:c_ x K with
  | none=>rw [A] at q;cases q
  | some z=>
   obtain⟨i,ds⟩:=z;rw [A] at q;dsimp only at q;obtain⟨rfl,T⟩:=kA A;obtain⟨a,rfl,hm⟩:=id W;obtain⟨xs,hH,rs⟩:=Z.obj i a _ hm T;refine⟨.inl ⟨rfl,xs,gQ.of hH⟩,?_⟩;obtain⟨y,N,e2,q⟩:=ah q;refine⟨C,m1,L,K,y,N,Z,h.mono s1,e2,fun u B G Y s2 J p2=>?_⟩;cases s:c_ (.ref i) N with
   | none=>rw [s] at q;cases q
   | some z=>
    obtain⟨i2,P⟩:=z;rw [s] at q;dsimp only at q;obtain⟨e3,n⟩:=kA s;cases e3;split at q
    .rename_i U;cases q;obtain⟨a2,e4,t⟩:=RD.mono s2 W;cases e4;obtain⟨w,g,j⟩:=J.obj i a _ t n;have hl:=j8 U;have D:w.length < sizeLine:=by
      have:P.length≤1000000:=of_decide_eq_true U;rw [<- j.length];exact kY this (by decide)
     have V:∀zs,Y a≠some (.tup zs):=fun zs z=>by rw [g] at z;cases z
     have l:Stp B G Y B G (cc Y a (.lst (w++[u]))):=fG J t n trivial V;refine⟨a,w,u,rfl,rfl,g,D,?_⟩;exact k .non B G _ (s1.trans (s2.trans l)) (J.set t n trivial V ⟨_,aE,dj.mono l (j.append ⟨u,[],rfl,p2,rfl⟩)⟩) rfl
    .cases q
noncomputable abbrev EO:=Lc->aD->Option (Option Int×aD)
noncomputable def dw:EO:=fun _ S=>some (none,S)
noncomputable def de (a:EV):EO:=fun L S=>aF (a L S) fun v h=>match v with
 | .int i=>some (some i,h)
 | _=>none
inductive tOI (K:FG) (f:EO) (σ:L2.St) (H:Hp) (Q:Option Int->Hp->Prop):Prop
 | mk (F:Aa) (m:List Addr) (L:Lc) (S:aD) (b:Option Int) (S':aD) (h0_:Rel K F H m S) (h1_:RL K F H m σ L) (h2_:f L S=some (b,S')) (h3_:∀F' m' H',Stp F m H F' m' H'->Rel K F' H' m' S'->Q b H'):tOI K f σ H Q
noncomputable def tO (K:FG) (f:EO):TO:=fun M H Q=>tOI K f M H Q
theorem _root_.L2.PO.imp' (h:PO X e t) (i:∀M H Q,k M H Q->t M H Q):PO X e k:=fun p s M H Q I q=>h p s M H Q I (i M H Q q)
theorem DQ:PO X none (tO X.K dw):=A9.imp' fun M H Q h=>by obtain⟨F,m,L,S,d,O,r,l,q,k⟩:=h;cases q;exact k F m H .refl r
theorem DP (h:PE X e (tV X.K y)):PO X (some e) (tO X.K (de y)):=(A7 h).imp' fun M H Q z=>by
 obtain⟨F,m,L,S,d,O,r,l,q,k⟩:=z;obtain⟨x,b,a,q⟩:=ah q;cases x with
 | int i=>cases q;exact⟨F,m,L,S,_,_,r,l,a,fun v C s I f n p=>⟨i,p,k C s I f n⟩⟩
 | _=>cases q
noncomputable def cut (xs:List q) (lo h:Option Int):List q:=(xs.drop (HT.ey xs.length 0 lo)).take (HT.ey xs.length xs.length h-HT.ey xs.length 0 lo)
theorem ci.cut (r:ci K F H k xs) (lo h:Option Int):ci K F H (Ev.cut k lo h) (tB xs lo h):=by unfold Ev.cut tB;rw [r.length];exact (r.drop _).take _
noncomputable def LZ:P->Option Int->Option Int->Option P
 | .lst xs,lo,h=>some (.lst (cut xs lo h))
 | .ro xs,lo,h=>some (.lst (cut xs lo h))
 | .tup xs,lo,h=>if HT.ey xs.length 0 lo=0/\HT.ey xs.length xs.length h=xs.length then none else some (.tup (cut xs lo h))
 | _,_,_=>none
theorem _root_.L2.PI.imp' (h:PI X r iter t) (i:∀M H R,k M H R->t M H R):PI X r iter k:=fun p s M H R I q=>h p s M H R I (i M H R q)
theorem zo (f:∀B h Y,Stp F m H B h Y->gQ K Y a xs) (r:ci K F H U xs):B3 K (II K a) U F m H:=by
 intro B h Y s;have q:=f B h Y s;have k:=ci.mono s r;refine⟨fun i v e=>?_,⟨xs,q,by rw [k.length];exact Nat.le_refl _⟩⟩;obtain⟨x,n,p⟩:=k.get e;refine⟨⟨xs,x,q,n⟩,fun y b z=>?_⟩;obtain⟨rfl,z⟩:=z;have:=z xs q
 rw [n] at this;cases this;exact⟨B,.refl,p⟩
theorem Ee (k:TupAt K H a xs) (r:ci K F H U xs):B3 K (K5 K a) U F m H:=by
 intro B b Y s;have q:=(k.kp s.kp).sq;have n:=ci.mono s r;refine⟨fun i v e=>?_,⟨xs,q,by rw [n.length];exact Nat.le_refl _⟩⟩;obtain⟨x,h,p⟩:=n.get e;refine⟨⟨xs,x,q,h⟩,fun y f z=>?_⟩;obtain⟨rfl,z⟩:=z;have:=z xs q
 rw [h] at this;cases this;exact⟨B,.refl,p⟩
noncomputable def intsFrom (lo:Int) (n:Nat):List P:=(List.range n).map fun (i:Nat)=>.int (lo+(i:Int))
noncomputable def hJ (a:EV):fS:=fun L S=>aF (a L S) fun v h=>match v with
 | .int j=>if decide (j.natAbs < 1000000)=true then some (intsFrom 0 j.toNat,h) else none
 | _=>none
theorem Ef {lo:Int}:B3 K (IH lo n) (intsFrom lo n) F m H:=by
 intro B k Y s;have l:(intsFrom lo n).length=n:=by unfold intsFrom;simp
 refine⟨fun i v e=>?_,by show n≤(intsFrom lo n).length;rw [l];exact Nat.le_refl _⟩;have h:i < n:=by rw [<- l];exact (List.getElem?_eq_some_iff.mp e).1
 refine⟨h,fun x a z=>?_⟩;obtain⟨rfl,rfl⟩:=z;refine⟨B,.refl,?_⟩;unfold intsFrom at e;simp [h] at e;subst e;exact rfl
theorem Lv {w a:Expr}{y:EV}{p N:Pos} (g:Gl X "range") (n:X.mg "range"=none) (s:PE X a (tV X.K y)) (h:starEach [a] X.env=[(false,eval a X.env)]:=by rfl):PI X w (.Call (.Name "range" p) [a] [] N) (tI X.K (hJ y)):=
 (wV g n (eW s g_ (by rw [h];rfl)) h).imp' fun M H R z=>by
  obtain⟨F,m,L,S,U,O,r,l,q,k⟩:=z;obtain⟨v,u,e,q⟩:=ah q;cases v with
  | int j=>
   dsimp only at q;split at q
   .rename_i c;have i:j.natAbs < 1000000:=of_decide_eq_true c;cases q;refine⟨F,m,L,S,_,_,r,l,e,fun x C f I d t b=>?_⟩;cases (show x=.int j from b);exact⟨j,rfl,by lia,by lia,k _ C f I d t Ef⟩
   .cases q
  | _=>cases q
end
noncomputable def bb (g:i4) (c:EB) (e:EV):List P->Lc->aD->Option (List P×aD)
 | [],_,S=>some ([],S)
 | v::r,L,S=>match g v L with
  | none=>none
  | some h=>aF (c h S) fun k x=>if k=true then aF (e h x) fun y a=>aF (bb g c e r h a) fun n s=>some (y::n,s) else bb g c e r h x
noncomputable def kj (j:List Nat) (n:Nat) (L:List (Option q)):List (Option q):=(j.foldl (fun L i=>L.set i none) L)++List.replicate n none
noncomputable def aX (i:fS) (j:List Nat) (n:Nat) (g:i4) (c:EB) (e:EV):EV:=fun L S=>aF (i L S) fun xs h=>if few xs=true then aF (bb g c e xs (kj j n L) h) fun y x=>some (.lst y,x) else none
noncomputable def fm:EB:=fun _ S=>some (true,S)
theorem fH (j:List Nat):∀L:List (Option q),(j.foldl (fun L i=>L.set i none) L).length=L.length:=by
 induction j with
 | nil=>intro L;rfl
 | cons t j h=>intro L;rw [gC,h,eG]
theorem oA (j:List Nat):∀(L:List (Option q)) (i:Nat) (d:q),(j.foldl (fun L i=>L.set i none) L)[i]? = some (some d)->L[i]? = some (some d)/\i ∉ j:=by
 induction j with
 | nil=>intro L i d h;exact⟨h,by simp⟩
 | cons t j s=>
  intro L i d h;rw [gC] at h;obtain⟨x,a⟩:=s _ _ _ h;by_cases e:t=i
  .subst e;by_cases l:t < L.length
   .rw [dP l] at x;cases x
   .rw [List.getElem?_eq_none (by rw [eG];lia)] at x;cases x
  .rw [a7 e] at x;exact⟨x,by simp [a];exact fun z=>e z.symm⟩
theorem qe (j:List Nat) (n:Nat) (L:List (Option q)):(kj j n L).length=L.length+n:=by unfold kj;rw [List.length_append,fH,List.length_replicate]
theorem vh (h:(kj j n L)[i]? = some (some d)):L[i]? = some (some d)/\i ∉ j/\i < L.length:=by
 unfold kj at h;by_cases x:i < L.length
 .rw [List.getElem?_append_left (by rw [fH];exact x)] at h;obtain⟨a,e⟩:=oA j L i d h;exact⟨a,e,x⟩
 .rw [fV (by rw [fH];lia),t5] at h;split at h <;> cases h
variable {M:L2.St}
theorem RL.up (l:RL K F H m M L) (j:List Nat) (n:Nat):RL K F H m (kj j n M) (kj j n L):=by
 refine⟨by rw [qe,qe,l.len],fun i d h=>?_⟩;obtain⟨a,s,f⟩:=vh h;obtain⟨v,e,r⟩:=l.at' i d a;refine⟨v,?_,r⟩;unfold kj;rw [List.getElem?_append_left (by rw [fH,l.len];exact f)];have k:∀(j:List Nat) (M:L2.St),i ∉ j->M[i]? = some (some v)->(j.foldl (fun L i=>L.set i none) M)[i]? = some (some v):=by
  intro j;induction j with
  | nil=>intro M _ e;exact e
  | cons t j b=>intro M x e;rw [gC];refine b _ (fun z=>x (aY _ z)) ?_;rw [a7 (fun z=>x (by rw [z];exact List.mem_cons_self))];exact e
 exact k j M s e
noncomputable def lE (G:Scope) (e:Env):List (Str×Addr):=((G.names.filter fun x=>x.2 == .free).map fun x=>(x.1,(e.cells.lookup x.1).getD 0)).reverse
noncomputable def inn (X:Cx) (G:Scope) (u:LS) (s:Shared) (H:Hp) (C:Addr) (f:List Addr):Cx:=
 { X with N:=u,s₀:=s,H₀:=H,env:=compEnvC G (lE G X.env) C X.env,outer:=X.stack,ex:=f,fn:=fun _=>false,pn:=[],xe:=fun _ _=>False }
structure BlockOk (X:Cx) (scope:Scope) (N':LS) (ts:List Nat) (n:Nat):Prop where
 kind:scope.kind=.function
 cell:∀x ∈ scope.names,x.2≠.cell
 loc:∀x ∈ scope.names,x.2=.local->scope.names.lookup x.1=some .local
 fr:∀x ∈ scope.names,x.2=.free->scope.names.lookup x.1=some .free/\(X.env.kindOf x.1=some .cell\/X.env.kindOf x.1=some .free)
 names:X.N=N'.take X.N.length
 more:N'.length=X.N.length+n
 ts:∀x ∈ scope.names,x.2=.local->∀i:Nat,X.N[i]? = some x.1->i ∈ ts
theorem gH:∀{l:List (Str×q)}{x:Str}{v:q},l.lookup x=some v->(x,v) ∈ l
 | [],_,_,h=>by simp at h
 | (y,w)::r,x,v,h=>by
  rw [pK] at h;cases e:x == y with
  | true=>rw [e] at h;cases h;rw [show x=y from by simpa using e];exact List.mem_cons_self
  | false=>rw [e] at h;exact aY _ (gH h)
theorem jP:∀{l:List (Str×q)}{x:Str}{v:q},(x,v) ∈ l->∃w,l.lookup x=some w
 | [],_,_,h=>by simp at h
 | (y,w)::r,x,v,h=>by
  rw [pK];cases e:x == y with
  | true=>exact⟨w,rfl⟩
  | false=>
   rcases bj.mp h with h | h
   .injection h with a _;subst a;simp at e
   .exact jP h
variable {x:Str}
theorem eU (h:(relabel G r).names.lookup x=some k):∃a,(x,a) ∈ G.names/\(k=a\/(k=.cell/\a=.free)):=by
 have m:=gH h;unfold relabel at m;obtain⟨⟨n,a⟩,t,e⟩:=bA.mp m;by_cases c:(a == NameKind.free && r.scope.kind == .function && r.kindOf n == some .cell)=true
 .have s:(n,NameKind.cell)=(x,k):=by simpa [c] using e
  injection s with f b;subst f;rw [Bool.and_eq_true,Bool.and_eq_true] at c;exact⟨a,t,.inr ⟨b.symm,by simpa using c.1.1⟩⟩
 .have s:(n,a)=(x,k):=by simpa [c] using e
  injection s with f b;subst f;exact⟨a,t,.inl b.symm⟩
section
variable {X:Cx}{G:Scope}{u:LS}{j:List Nat}{n:Nat}
theorem BlockOk.cl (B:BlockOk X G u j n) (I:Inv X J M H s) (h:(lE G X.env).lookup x=some c):X.env.cells.lookup x=some c/\(x,NameKind.free) ∈ G.names:=by
 have t:=gH h;unfold lE at t;obtain⟨⟨y,k⟩,m,e⟩:=bA.mp (List.mem_reverse.mp t);obtain⟨m,d⟩:=fU.mp m;have r:k=.free:=by simpa using d
 subst r;injection e with q f;subst q;obtain⟨_,v⟩:=B.fr _ m rfl;obtain⟨p,a⟩:=I.ok.has y v;dsimp only at f;rw [a] at f;have b:p=c:=f;subst b;exact⟨a,m⟩
theorem BlockOk.has (B:BlockOk X G u j n) (h:(x,NameKind.free) ∈ G.names):∃c,(lE G X.env).lookup x=some c:=by unfold lE;exact jP (v:=(X.env.cells.lookup x).getD 0) (List.mem_reverse.mpr (bA.mpr ⟨(x,.free),fU.mpr ⟨h,by simp⟩,rfl⟩))
theorem zz (B:BlockOk X G u j n) (I:Inv X r M H s) (C:s.heap.objs.size≤k) (f:∀b ∈ t,rR X r H b) (d:∀b ∈ t,b < s.heap.objs.size) :
  (inn X G u s H k t).Ok where
 mod:=I.ok.mod
 kind:=B.kind
 glob:=I.ok.glob
 blt:=I.ok.blt
 above:=C
 inj:=fun x y c q v=>I.ok.inj x y c (B.cl I q).1 (B.cl I v).1
 has:=fun x h=>by
  have p:(relabel G X.env).names.lookup x=some .cell\/(relabel G X.env).names.lookup x=some .free:=h;rcases p with h | h
  .obtain⟨w,m,e | ⟨_,e⟩⟩:=eU h
   .subst e;exact absurd rfl (B.cell _ m)
   .subst e;exact B.has m
  .obtain⟨w,m,e | ⟨e,_⟩⟩:=eU h
   .subst e;exact B.has m
   .cases e
 cab:=fun x c h=>nomatch h
 hd:=I.ok.hd
 frames:=I.ok.frames
 stk:=.inl rfl
 exf:=fun b a=>⟨bo (cj (d b a) C),fun x c h=>(f b a).2.2.2.2.1 x c (B.cl I h).1⟩
 bs:=I.bs
 bsz:=aM I.ok.bsz I.sz
 noex:=fun b o e a=>by
  rcases (f b a).2.2.2.1 with z | z
  .exact I.ok.noex b o e z
  .exact absurd (cj (Heap.lt_size (I.ok.bs b o e).1) z) (i' _)
 exfs:=fun b a z=>by
  rcases bj.mp (I.stkSub b z) with z | z
  .exact (f b a).2.1 z
  .exact (f b a).2.2.1 z
 funs:=I.stack
 frf:=I.stkFree
theorem _root_.L2.Un.sameBut (u:Un fs r H H' h t) (s:Heap.SameBut k t J) (C:∀b o,h.get? b=some o->b≠k):Un fs r H H' h J where
 keep:=fun b o e n a x=>s.extBut b o (C b o e) (u.keep b o e n a x)
 slot:=fun b o e n a x=>by obtain⟨l,q⟩:=u.slot b o e n a x;exact⟨l,s.extBut b _ (C b o e) q⟩
 free:=u.free
 there:=fun b o e x=>by obtain⟨f,q⟩:=u.there b o e x;exact⟨f,s.extBut b _ (C b o e) q⟩
 tups:=u.tups
 frzs:=u.frzs
 tbls:=u.tbls
theorem _root_.L2.jM.sameBut {P:Program}{w:World}{H:Hp}{h x:Heap}{C:Addr} (ok:jM P w H h) (n:Heap.SameBut C h x) (a:H C=none):jM P w H x:=fun b u e=>
 (ok b u e).stay (fun c v s q=>n.extBut c v (by
  rintro rfl;rcases s with z | z
  .subst z;rw [a] at e;cases e
  .rw [a] at z;cases z) q) (fun _ q=>q) fun _ _ q=>q
inductive PIfs (X:Cx):Ab->EB->Prop where
 | none:PIfs X [] fm
 | one {c:Expr}{q:EB}:PT X c (tQ X.K q)->PIfs X [c] q
theorem Kp.bump (x:¬F p) (t:∀xs,H p≠some (.tup xs)):Kp F m H F m (cc H p o):=
 ⟨⟨[],by simp⟩,fun _ h=>h,fun b u f h=>by rw [am (by rintro rfl;exact x f)];exact h,fun b xs h=>by rw [am (by rintro rfl;exact t xs h)];exact h⟩
theorem Stp.bump (s:Stp F m H F' m' H') (x:H p=none):Stp F m H F' m' (cc H' p o) where
 pre:=s.pre
 oth:=fun b u h a=>by rw [am (by rintro rfl;rw [x] at h;cases h)];exact s.oth b u h a
 frz:=s.frz
 frk:=fun b u f h=>by rw [am (by rintro rfl;rw [x] at h;cases h)];exact s.frk b u f h
 tup:=fun b xs h=>by rw [am (by rintro rfl;rw [x] at h;cases h)];exact s.tup b xs h
 trk:=fun b h=>by
  by_cases e:b=p
  .subst e;rw [aE];exact fun z=>nomatch z
  .rw [am e];exact s.trk b h
 nf:=s.nf
 nm:=s.nm
theorem Rel.bump (r:Rel K F H m S) (x:¬F p) (s:p ∉ m) (t:∀xs,H p≠some (.tup xs)):Rel K F (cc H p o) m S:=
 r.stayK (Kp.bump x t) (fun a u e h=>by rw [am (by rintro rfl;exact s e)];exact h) (fun _ f=>.inl f) fun a f=>by rw [am (by rintro rfl;exact x f)];exact r.ft a f
theorem KC:Kp F m H (fun b=>F b\/b=p) m H:=⟨⟨[],by simp⟩,fun _ h=>.inl h,fun _ _ _ h=>h,fun _ _ h=>h⟩
theorem Stp.addF (s:Stp F m H F' m' H') (x:H p=none):Stp F m H (fun b=>F' b\/b=p) m' H':=
 ⟨s.pre,s.oth,fun b h=>.inl (s.frz b h),s.frk,s.tup,s.trk,fun b h=>by
  rcases h with h | h
  .exact s.nf b h
  .subst h;exact .inr (.inl x),s.nm⟩
theorem Rel.addF (r:Rel K F H m S) (s:p ∉ m) (n:H p≠none):Rel K (fun b=>F b\/b=p) H m S where
 len:=r.len
 nd:=r.nd
 obj:=fun i a o e x=>(r.obj i a o e x).kp KC fun u h=>h
 sep:=fun i a o e x w f=>by
  rcases f with f | f
  .exact r.sep i a o e x w f
  .subst f;exact s (bF e)
 trk:=r.trk
 ft:=fun a f=>by
  rcases f with f | f
  .exact r.ft a f
  .subst f;exact n
theorem _root_.L2.Inv.letGo (I:Inv X k M H s) (f:Heap.SameBut h s.heap t) (C:H h=none) (v:X.s₀.heap.objs.size≤h) (d:h≠X.env.locals)
  (w:∀x c,X.env.cells.lookup x=some c->c≠h) (u:∀p ∈ X.pn++k,p.1≠h):Inv X k M H { s with heap:=t }:=by
 have r:∀b:Addr,b ∉ [h]->b≠h:=fun b m z=>m (by simp [z]);refine I.call' (z:={ s with heap:=t }) (N:=[h]) rfl ⟨fun b o e _ _ a=>f.extBut b o (r b a) e,fun b o e _ _ a=>⟨o.slots,f.extBut b o (r b a) e⟩,fun _ _ _ n _=>n,fun b o e a=>⟨o,f.extBut b o (r b a) e⟩,fun _ _ q=>q,fun _ _ _ q=>q,fun b g q=>⟨#[],by rw [q];simp⟩⟩ (I.hok.sameBut f C) I.bare fun b m=>?_;have e:b=h:=by simpa using m
 subst e;exact⟨.inr v,d,w,u⟩
theorem xL (I:Nat->Shared->Prop)
  (u:∀n s,I n s->wpAny (model t w) A (pyNext it) (fun r f=>match r with
   | none=>R (.ok .next) f
   | some v=>wpAny (model t w) A (letOwnedTupleGo tg it v) (fun _ d=>wpAny (model t w) A (assign tg k v) (fun _ g=>
     wpAny (model t w) A (forIn ifs true fun c r=>if r=true then do let ok <- isTrue c k (eval c k);pure (ForInStep.yield ok) else pure (ForInStep.yield r)) (fun ok b=>
      if ok=true then wpAny (model t w) A (eval elt k) (fun x i=>
       wpAny (model t w) A (call (.builtin "list.append") [J,x]) (fun _ j=>∃m,m < n/\I m j) (notedBy (model t w) A k fun e a=>R (.error e) a) i) (notedBy (model t w) A k fun e a=>R (.error e) a) b
      else ∃m,m < n/\I m b) (notedBy (model t w) A k fun e a=>R (.error e) a) g) (notedBy (model t w) A k fun e a=>R (.error e) a) d) (notedBy (model t w) A k fun e a=>R (.error e) a) f) (notedBy (model t w) A k fun e a=>R (.error e) a) s)
  (n:Nat) (h:I n s):codeAny (model t w) A (.compLoop (.ListComp elt [⟨tg,iter,ifs,0⟩] G N) 0 it J k) R s:=by
 refine codeAny_loop rfl I (fun n s S=>?_) n h;show wpAny _ A ((compTurn (.ListComp elt [⟨tg,iter,ifs,0⟩] G N) 0 it J k).onRaise (fun x=>do noteFrame x k;theTreesLotGoes x)) _ _ s;refine wpAny_noted ?_;rw [compTurn_list];refine wpAny_bind (wpAny_standAt (wpAny_bind (wpAny_mono (u n s S) (fun r f p=>?_) fun _ _ z=>z)));cases r with
 | none=>exact wpAny_pure p
 | some v=>
  refine wpAny_bind (wpAny_mono p (fun _ d l=>wpAny_bind (wpAny_mono l (fun _ g y=>wpAny_bind (wpAny_mono y (fun ok b q=>?_) fun _ _ z=>z)) fun _ _ z=>z)) fun _ _ z=>z);cases ok with
  | false=>exact wpAny_pure ⟨rfl,q⟩
  | true=>exact wpAny_bind (wpAny_bind (wpAny_mono q (fun x i o=>wpAny_bind (wpAny_mono o (fun _ j H=>wpAny_pure (wpAny_pure ⟨rfl,H⟩)) fun _ _ z=>z)) fun _ _ z=>z))
theorem BQ {w:Heap}{tk:Nat} (B:BlockOk X G u j n) (I:Inv X J M Y k) (C:k.heap.objs.size≤h) (V:∀b ∈ fp,rR X J Y b) (K:∀b ∈ fp,b < k.heap.objs.size) (l:∀b o,k.heap.get? b=some o->w.get? b=some o)
  (W:Y k.heap.objs.size=none) (D:k.heap.objs.size≠h) (F:Y h=none) (t:w.Ns h mC) (O:w.get? k.heap.objs.size=some { cls:=.type "list",dict:=none,data:=.seq ([]:LV).toArray }) :
  Inv (inn X G u k Y h fp) [] (kj j n M) (cc Y k.heap.objs.size (.lst [])) { k with heap:=w,toks:=tk }:=by
 refine⟨zz B I C V K,rfl,I.bare,Un.laid l (Nat.le_refl _) W,?_,fun x c e=>?_,?_,fun x c e=>?_,fun p hp=>absurd (show p ∈ ([]:PN) from hp) (by simp),?_,?_⟩
 .obtain⟨m0,Z,P⟩:=I.loc;refine⟨_,t,fun i x v R T hv=>?_⟩;obtain⟨g,H,S⟩:=vh T;have r:M.length=X.N.length:=I.len;have L:X.N[i]? = some x:=by
   rw [B.names,iz (by rw [<- r];exact S)];exact R
  have d:(relabel G X.env).names.lookup x=some .local\/(relabel G X.env).names.lookup x=some .cell\/(relabel G X.env).names.lookup x=some .free:=hv;have Q:¬(relabel G X.env).names.lookup x=some .local:=fun z=>by
   obtain⟨N,m,e | ⟨e,_⟩⟩:=eU z
   .subst e;exact absurd (B.ts _ m rfl i L) H
   .cases e
  have E:(x,NameKind.free) ∈ G.names:=by
   rcases d with z | z | z
   .exact absurd z Q
   .obtain⟨N,m,e | ⟨_,e⟩⟩:=eU z
    .subst e;exact absurd rfl (B.cell _ m)
    .subst e;exact m
   .obtain⟨N,m,e | ⟨e,_⟩⟩:=eU z
    .subst e;exact m
    .cases e
  obtain⟨_,f⟩:=B.fr _ E rfl;have A:EI X.env.scope x:=by
   rcases f with z | z
   .exact .inr (.inl z)
   .exact .inr (.inr z)
  obtain⟨a,ru,lk⟩:=P i x v L g A;refine⟨a,ru,.inr ⟨?_,?_⟩⟩
  .rcases d with z | z | z
   .exact absurd z Q
   .exact .inl z
   .exact .inr z
  .rcases lk with ⟨z,_⟩ | ⟨_,c,U,ic⟩
   .rcases f with y | y
    .rw [z] at y;cases y
    .rw [z] at y;cases y
   .obtain⟨c',s⟩:=B.has E;have:=(B.cl I s).1
    rw [U] at this;cases this;obtain⟨o,q,hd⟩:=ic;exact⟨c,s,o,l c o q,hd⟩
 .obtain⟨v,o,q,hd⟩:=I.cell x c (B.cl I e).1;exact⟨v,o,l c o q,hd⟩
 .show cc Y k.heap.objs.size (.lst []) h=none;rw [am (Ne.symm D)];exact F
 .obtain⟨v,o,q,hd⟩:=I.cell x c (B.cl I e).1;rw [am (bo (Heap.lt_size q))];exact I.freeC x c (B.cl I e).1
 .exact I.hok.laid l (Nat.le_refl _) ⟨Nat.zero_le _,[],0,.nil,O⟩
 .show (kj j n M).length=u.length;rw [qe,I.len,B.more]
inductive cIv (K:FG) (Y:Cx) (F1:Aa) (m1:List Addr) (H2:Hp) (A:Addr) (tn:Nat->Heap->Prop) (fp:List Addr) (R:Nat->Nat->Lc->aD->List P->Prop) (ys:List P) (nn:Nat) (sx:Shared):Prop
 | mk (i:Nat) (σ':L2.St) (F':Aa) (m':List Addr) (H':Hp) (L':Lc) (S':aD) (acc ck:List P) (xs:List V) (h0_:Inv Y [] σ' H' sx) (h1_:tn i sx.heap) (h2_:∀b ∈ fp,H' b=none) (h3_:Stp F1 m1 H2 F' m' H') (h4_:Rel K F' H' m' S') (h5_:RL K F' H' m' σ' L') (h6_:H' A=some (.lst xs)) (h7_:ci K F' H' acc xs) (h8_:acc.length≤i) (h9_:¬F' A) (ha_:A ∉ m') (hb_:R nn i L' S' ck) (hc_:acc++ck=ys):cIv K Y F1 m1 H2 A tn fp R ys nn sx
theorem pq 
  (B:BlockOk X G u j n) (hcalm:X.calm=true)
  (hi:PI X tg iter (tI X.K fi)) (hg:∀s H h D,PG (inn X G u s H h D) tg (gT X.K g)) (hc:∀s H h D,PIfs (inn X G u s H h D) ifs fc) (he:∀s H h D,PE (inn X G u s H h D) elt (tV X.K fe))
  (hclos:closureFor G X.env=pure (lE G X.env)) (hs:∀x,foldedSetIterable iter X.env x=pure x)
  (a:Inv X pins M H s) (r:Rel X.K F H m S) (l:RL X.K F H m M L) (q:aX fi j n g fc fe L S=some (d,S2))
  (fin:∀p F' m' H' sx h,Inv X pins M H' sx->Stp F m H F' m' H'->Rel X.K F' H' m' S2->RP X.K F' H' d (.ref p)->H' h=none->X.s₀.heap.objs.size≤h->h≠X.env.locals->(∀x c,X.env.cells.lookup x=some c->c≠h)->(∀p ∈ X.pn++pins,p.1≠h) ->
   (∃mC,sx.heap.Ns h mC)->compPost (model X.prog X.w) X.A X.xe use k (.ref p) h (.ok .next) sx) :
  wpAny (model X.prog X.w) X.A (comprehension (.ListComp elt [⟨tg,iter,ifs,0⟩] G N) G X.env p2 (newList []) false (eval iter X.env) use) k X.xe s:=by
 obtain⟨U,S1,e1,q⟩:=ah q;split at q;case isFalse=>cases q
 rename_i hfew;obtain⟨ys,S2',e2,q⟩:=ah q;cases q;refine wpAny_comprehension_free (use:=use) rfl hs hclos B.kind B.loc (cK (hi pins s M H _ a ⟨F,m,L,S,U,S1,r,l,e1,fun J C m1 I s1 r1 it=>(show (fun J I=>∃C m1,Stp F m H C m1 I/\Rel X.K C I m1 S1/\B3 X.K J U C m1 I) J I from ⟨C,m1,s1,r1,it⟩)⟩) fun xv sA hA=>cK hA fun itv P h2=>?_);obtain⟨it,D,tn,J,Y,rfl,I2,T,st2,f2,C,m1,s1,r1,itp⟩:=h2;have hfp:∀b ∈ D,b < P.heap.objs.size:=fun b E=>by obtain⟨o,e,_⟩:=T.obj _ _ st2 b E;exact Heap.lt_size e
 refine wpAny_newObj_type ?_ (by show 0≤sizeLine;exact Nat.zero_le _);refine wpAny_newFunctionEnv B.cell (by intro y hy;simp at hy) (fun h1 hns1 hsb1=>?_) B.kind;dsimp only at hns1 hsb1 ⊢;have hD:Y P.heap.objs.size=none:=I2.hok.fresh (Nat.le_refl _);generalize hH2:P.heap.push { cls:=.type "list",dict:=none,data:=.seq ([]:LV).toArray }=K at hns1 hsb1 ⊢;have hC:K.objs.size=P.heap.objs.size+1:=by rw [<- hH2,Heap.size_push]
 have A:P.heap.objs.size≤K.objs.size:=by rw [hC];exact kU _
 have old:∀b o,P.heap.get? b=some o->h1.get? b=some o:=fun b o e=>hsb1.extBut b o (bo (cj (Heap.lt_size e) A)) (Heap.get?_push_of_some _ (hH2 ▸ Heap.get?_push_of_some _ e));have hDC:P.heap.objs.size≠K.objs.size:=by rw [hC];exact bo (Nat.lt_succ_self _)
 have accO:h1.get? P.heap.objs.size=some { cls:=.type "list",dict:=none,data:=.seq ([]:LV).toArray }:=hsb1.extBut _ _ hDC (Heap.get?_push_of_some _ (hH2 ▸ Heap.get?_push_size _ rfl));have hCn:Y K.objs.size=none:=I2.hok.fresh A;have hCcell:∀x c,X.env.cells.lookup x=some c->c≠K.objs.size:=fun x c e z=>by obtain⟨v,o,ho,_⟩:=I2.cell x c e;exact absurd (Heap.lt_size ho) (Nat.not_lt.mpr (by rw [z];exact A))
 have hCloc:K.objs.size≠X.env.locals:=Nat.ne_of_gt (cj I2.lt A);have hCpin:∀p ∈ X.pn++pins,p.1≠K.objs.size:=fun p hp z=>absurd (Heap.lt_size (I2.pin p hp).1) (Nat.not_lt.mpr (by rw [z];exact A));have I3:=BQ (tk:=P.toks+([]:List (Str×Value)).length) B I2 A f2 hfp old hD hDC hCn hns1 accO;have okX:=zz (k:=K.objs.size) B I2 A f2 hfp;have fpH:∀{H':Hp},(∀b ∈ D,H' b=none)->∀b ∈ D,rR (inn X G u P Y K.objs.size D) [] H' b:=fun hn b E=>
  ⟨hn b E,bo (cj (hfp b E) A),okX.exfs b E,.inl E,(okX.exf b E).2,fun p hp=>absurd (show p ∈ ([]:PN) from hp) (by simp)⟩
 have tn1:tn 0 h1:=T.keep _ _ _ st2 fun b E o e=>old b o e;have loop:∀s3:Shared,s3={ P with heap:=h1,toks:=P.toks+([]:List (Str×Value)).length } ->
   codeAny (model X.prog X.w) X.A (.compLoop (.ListComp elt [⟨tg,iter,ifs,0⟩] G N) 0 (.ref it) (.ref P.heap.objs.size) (compEnvC G (lE G X.env) K.objs.size X.env))
    (compPost (model X.prog X.w) X.A X.xe use k (.ref P.heap.objs.size) K.objs.size) s3:=by
  rintro s3 rfl;refine xL (cIv X.K (inn X G u P Y K.objs.size D) C m1 Y P.heap.objs.size tn D (fun nn i L' O ck=>nn=U.length-i/\i≤U.length/\bb g fc fe (U.drop i) L' O=some (ck,S2)) ys) ?_ U.length ?_
  .rintro nn sx ⟨i,σ',F',m',H',L',O,acc,ck,xs,I',tn',fr',st',r',l',Z,ra,hal,nF,nm,⟨rfl,hi',R⟩,rfl⟩;obtain⟨hgo,hstop⟩:=itp F' m' H' st';by_cases hlt:i < U.length
   .have hv:U[i]? = some U[i]:=by simp [hlt]
    rw [uc hlt] at R;obtain⟨hgo1,hy⟩:=hgo i _ hv;refine wpAny_mono (T.item (inn X G u P Y K.objs.size D) rfl rfl rfl hcalm i [] sx σ' H' (fun _ _=>False) I' (fpH fr') tn' hgo1) (fun rr sy hr=>?_) (fun _ _ f=>f.elim);obtain⟨t,rfl,hr⟩:=hr;refine wpAny_mono hr (fun _ sz hz=>?_) (fun _ _ f=>f.elim);obtain⟨x,H3,I4,rx,yl,tn4,fr4⟩:=hz;obtain⟨F3,gr,p3⟩:=hy x H3 yl;have F4:Stp C m1 Y F3 m' H3:=st'.trans gr.stp;have r4:=r'.grow gr;have l4:=l'.mono (gr.stp (m:=m'));have acc4:=gr.keep _ _ Z;have nF4:¬F3 P.heap.objs.size:=fun z=>by
     rcases gr.nf _ z with z | ⟨z,_⟩
     .exact nF z
     .rw [Z] at z;cases z
    have I4':=I4.pinned (fpH fr4) (T.obj _ _ tn4);have back:∀{σ7:L2.St}{H7:Hp}{s7:Shared},Inv (inn X G u P Y K.objs.size D) ([]++lc D sz.heap) σ7 H7 s7->tn (i+1) s7.heap/\∀b ∈ D,H7 b=none:=fun {σ7 H7 s7} I7=>
     ⟨T.keep _ _ _ tn4 fun b E o e=>(I7.pin (b,o) (dX _ (dX _ (iL E e)))).1,fun b E=>by obtain⟨o,e,dd⟩:=T.obj _ _ tn4 b E;exact (I7.pin (b,o) (dX _ (dX _ (iL E e)))).2.1⟩
    unfold bb at R;cases eg:g U[i] L' with
    | none=>rw [eg] at R;cases R
    | some L1=>
     rw [eg] at R;dsimp only at R;obtain⟨kk,S5,e5,R⟩:=ah R;refine wpAny_mono (hg P Y K.objs.size D _ sz σ' H3 x t (fun Q H5=>H5=H3/\RL X.K F3 H3 m' Q L1) I4' rx ⟨F3,m',L',U[i],L1,l4,p3,eg,fun Q l5=>⟨rfl,l5⟩⟩) (fun _ s5 h5=>?_) (fun _ _ f=>f.elim);obtain⟨Q,H5,I5,rfl,l5⟩:=h5;have test:wpAny (model X.prog X.w) X.A (forIn ifs true fun c r=>if r=true then do let ok <- isTrue c (compEnvC G (lE G X.env) K.objs.size X.env) (eval c (compEnvC G (lE G X.env) K.objs.size X.env));pure (ForInStep.yield ok) else pure (ForInStep.yield r))
       (fun ok s6=>ok=kk/\∃V m6 H6,Inv (inn X G u P Y K.objs.size D) ([]++lc D sz.heap) Q H6 s6/\Stp F3 m' H5 V m6 H6/\Rel X.K V H6 m6 S5) (fun _ _=>False) s5:=by
      have hcc:=hc P Y K.objs.size D;cases hcc with
      | none=>cases e5;exact wpAny_tests_nil ⟨rfl,F3,m',H5,I5,.refl,r4⟩
      | one hq=>refine wpAny_tests_one (wpAny_mono (hq _ s5 Q H5 (fun b H6=>b=kk/\∃V m6,Stp F3 m' H5 V m6 H6/\Rel X.K V H6 m6 S5) I5 ⟨F3,m',L1,O,kk,S5,r4,l5,e5,fun V m6 H6 s6 r6=>⟨rfl,V,m6,s6,r6⟩⟩) (fun b s6 h6=>?_) fun _ _ f=>f);obtain⟨H6,I6,rfl,V,m6,yo,r6⟩:=h6;exact⟨rfl,V,m6,H6,I6,yo,r6⟩
     refine wpAny_mono test (fun ok s6 h6=>?_) (fun _ _ f=>f.elim);obtain⟨rfl,V,m6,H6,I6,yo,r6⟩:=h6;have W:=yo.oth _ _ acc4 nm;have nm6:P.heap.objs.size ∉ m6:=fun z=>by
      rcases yo.nm _ z with z | z
      .exact nm z
      .rw [acc4] at z;cases z
     have nF6:¬V P.heap.objs.size:=fun z=>by
      rcases yo.nf _ z with z | z | z
      .exact nF4 z
      .rw [acc4] at z;cases z
      .exact nm z
     have ra6:=ci.mono yo (ra.grow gr);have l6:=l5.mono yo;cases ok with
     | false=>rw [if_neg bS] at R ⊢;obtain⟨t7,f7⟩:=back I6;exact⟨U.length-(i+1),by lia,i+1,Q,V,m6,H6,L1,S5,acc,ck,xs,I6.pins_of fun p hp=>absurd hp (by simp),t7,f7,F4.trans yo,r6,l6,W,ra6,Nat.le_succ_of_le hal,nF6,nm6,⟨rfl,hlt,R⟩,rfl⟩
     | true=>
      rw [if_pos rfl] at R ⊢;obtain⟨y,S8,e8,R⟩:=ah R;obtain⟨zs,S9,e9,R⟩:=ah R;cases R;refine wpAny_mono (he P Y K.objs.size D _ s6 Q H6 (fun v8 H8=>∃F8 m8,Stp V m6 H6 F8 m8 H8/\Rel X.K F8 H8 m8 S8/\RP X.K F8 H8 y v8) I6 ⟨V,m6,L1,S5,y,S8,r6,l6,e8,fun v8 F8 m8 H8 s8 r8 p8=>⟨F8,m8,s8,r8,p8⟩⟩) (fun u8 s8 h8=>?_) (fun _ _ f=>f.elim);obtain⟨v8,H8,I8,rv8,F8,m8,st8,r8,p8⟩:=h8;have acc8:=st8.oth _ _ W nm6;have nm8:P.heap.objs.size ∉ m8:=fun z=>by
       rcases st8.nm _ z with z | z
       .exact nm6 z
       .rw [W] at z;cases z
      have nF8:¬F8 P.heap.objs.size:=fun z=>by
       rcases st8.nf _ z with z | z | z
       .exact nF6 z
       .rw [W] at z;cases z
       .exact nm6 z
      have ra8:=ci.mono st8 ra6;have nt8:∀zs,H8 P.heap.objs.size≠some (.tup zs):=fun zs z=>by rw [acc8] at z;cases z
      have hl8:xs.length < sizeLine:=by have h9:U.length≤1000000:=of_decide_eq_true hfew;rw [<- ra8.length];exact cj (kY hal hlt) (aM h9 (by decide))
      refine wpAny_mono (o8 (X:=inn X G u P Y K.objs.size D) _ s8 Q H8 (.ref P.heap.objs.size) [v8] (.ref P.heap.objs.size) [u8] (fun _ H9=>H9=cc H8 P.heap.objs.size (.lst (xs++[v8]))) I8 rfl (.cons rv8 .nil) ⟨_,xs,v8,rfl,rfl,acc8,hl8,rfl⟩) (fun _ s9 h9=>?_) (fun _ _ f=>f.elim);obtain⟨_,H9,I9,_,rfl⟩:=h9;obtain⟨t9,f9⟩:=back I9;have kb:Kp F8 m8 H8 F8 m8 (cc H8 P.heap.objs.size (.lst (xs++[v8]))):=Kp.bump nF8 nt8;have st9:Stp C m1 Y F8 m8 (cc H8 P.heap.objs.size (.lst (xs++[v8]))):=(F4.trans (yo.trans st8)).bump hD;have l9:RL X.K F8 (cc H8 P.heap.objs.size (.lst (xs++[v8]))) m8 Q L1:=⟨l6.len,fun w dd e=>by obtain⟨v,e1,rr⟩:=(l6.mono st8).at' w dd e;exact⟨v,e1,RD.kp kb rr⟩⟩
      exact⟨U.length-(i+1),by lia,i+1,Q,F8,m8,_,L1,S8,acc++[y],zs,xs++[v8],I9.pins_of fun p hp=>absurd hp (by simp),t9,f9,st9,r8.bump nF8 nm8 nt8,l9,aE,
       ci.kp kb (ra8.append ⟨v8,[],rfl,p8,rfl⟩),by rw [List.length_append];exact Nat.succ_le_succ hal,nF8,nm8,⟨rfl,hlt,e9⟩,by simp⟩
   .have e:i=U.length:=by lia
    subst e;rw [pX] at R;cases R;refine wpAny_mono (T.done (inn X G u P Y K.objs.size D) rfl rfl rfl hcalm U.length [] sx σ' H' (fun _ _=>False) I' (fpH fr') tn' hstop) (fun rr sy hr=>?_) (fun _ _ f=>f.elim);obtain⟨rfl,I5⟩:=hr;rw [List.append_nil] at *
    have Iout:Inv X pins M H' sy:=I2.call' (N:=D) I5.os I5.base I5.hok I5.bare fun b E=>⟨(f2 b E).2.2.2.1,(f2 b E).2.1,(f2 b E).2.2.2.2.1,(f2 b E).2.2.2.2.2⟩;have hD0:H P.heap.objs.size=none:=by
     cases q:H P.heap.objs.size with
     | none=>rfl
     | some o=>exact absurd hD (s1.trk _ (by rw [q];exact fun z=>nomatch z))
    have hCH:H' K.objs.size=none:=I5.free;obtain⟨mC,hmC,_⟩:=I5.loc;exact fin P.heap.objs.size (fun b=>F' b\/b=P.heap.objs.size) m' H' sy K.objs.size Iout ((s1.trans st').addF hD0) (r'.addF nm (by rw [Z];exact fun z=>nomatch z))
     ⟨_,xs,rfl,⟨.inr rfl,Z⟩,ci.kp (m:=m') KC ra⟩ hCH (aM I2.sz A) hCloc hCcell hCpin ⟨mC,hmC⟩
  .exact⟨0,_,C,m1,_,kj j n L,S1,[],ys,[],I3,tn1,fun b E=>by rw [am (bo (hfp b E))];exact (f2 b E).1,(bU hD).stp,r1.grow (bU hD),((l.mono s1).mono (bU hD).stp).up j n,aE,rfl,Nat.zero_le _,r1.fresh_F hD,r1.fresh_m hD,⟨rfl,Nat.zero_le _,by rw [mB];exact e2⟩,rfl⟩
 exact codeAny_compStart_list (loop _ rfl) (T.self X.A 0 _ _ _ tn1 (loop _ rfl))
theorem Fv (B:BlockOk X G u j n) (c:X.calm=true)
  (D:PI X tg iter (tI X.K fi)) (A:∀s H C f,PG (inn X G u s H C f) tg (gT X.K g)) (K:∀s H C f,PIfs (inn X G u s H C f) J fc) (P:∀s H C f,PE (inn X G u s H C f) t (tV X.K fe))
  (o:closureFor G X.env=pure (lE G X.env)) (E:∀x,foldedSetIterable iter X.env x=pure x:=by intro _;rfl) :
  PE X (.ListComp t [⟨tg,iter,J,0⟩] G N) (tV X.K (aX fi j n g fc fe)):=by
 intro i s M H Q I ⟨F,m,L,S,d,O,r,h,q,k⟩;rw [eval_ListComp];refine pq B c D A K P o E I r h q fun p F' m' H' Z C e l U V z b v w y R=>?_
 obtain⟨T,a⟩:=R;exact⟨T,a,fun Y W=>⟨.ref p,H',e.letGo W z b v w y,rfl,k _ F' m' H' l U V⟩⟩
theorem Fi (i:Nat) (hN:X.N.Nodup) (B:BlockOk X G u j n) (c:X.calm=true)
  (hi:PI X tg iter (tI X.K fi)) (hg:∀s H C f,PG (inn X G u s H C f) tg (gT X.K g)) (hc:∀s H C f,PIfs (inn X G u s H C f) J fc) (he:∀s H C f,PE (inn X G u s H C f) t (tV X.K fe))
  (o:closureFor G X.env=pure (lE G X.env)) (A:swapsWith (.ListComp t [⟨tg,iter,J,0⟩] G N) (some (.Name x px)) spos.line X.env=pure true:=by rfl)
  (hs:∀x,foldedSetIterable iter X.env x=pure x:=by intro _;rfl) (K:X.N[i]? = some x:=by rfl) (hx:Loc X.env.scope x:=by first | exact Or.inl rfl | exact Or.inr rfl)
  (hf:X.fn x=true\/X.env.scope.names.lookup x=some .local:=by first | exact .inl rfl | exact .inr rfl | assumption) :
  PS X (.Assign [.Name x px] (.ListComp t [⟨tg,iter,J,0⟩] G N) spos) (ku X.K (ak i (eV (aX fi j n g fc fe)))):=by
 intro y s M H D I ⟨F,m,L,S,fl,L',O,r,h,q,k⟩;obtain⟨d,S1,W,q⟩:=ah q;cases q;obtain⟨v,S2,Y,Z⟩:=ah W;cases Z;rw [exec_Assign_Name_used _ _ _ _ A];refine wpAny_bind (wpAny_standAt (wpAny_bind ?_));show wpAny _ _ (do let _ <- comprehension (.ListComp t [⟨tg,iter,J,0⟩] G N) G X.env _ (newList []) false (eval iter X.env) (some (assign (.Name x px) X.env))) _ _ s;refine wpAny_bind (wpAny_mono (pq (use:=some (assign (.Name x px) X.env)) (k:=fun _ E=>SP X y D .next E) B c hi hg hc he o hs I r h Y fun p F' m' H' sx C V l r' rp hC h0 T U h3 hz=>?_) (fun _ E hq=>wpAny_pure (wpAny_pure hq)) fun _ _ e=>e);obtain⟨mC,P⟩:=hz;refine wpAny_assign_Name (oZ V hN K hx (v:=.ref p) rfl (fun E z w=>?_) hf);refine⟨mC,?_,fun h' sb=>⟨_,H',z.letGo sb hC h0 T U h3,k _ F' m' H' l r' ((h.mono l).set (d:=.p v) rp i)⟩⟩;obtain⟨a,R,b⟩:=w;refine P.sameBut R ?_;rcases b with b | b
 .rw [b];exact T
 .exact Ne.symm (U x a b)
end
end Ev
namespace Ev
open PySem PySem.Spec PyProof.Rows L2
section
variable {X:Cx}{a b e:Expr}{es:Ab}{C U:EV}{fs:fS}{J p:Pos}
noncomputable def uV:P->Option P
 | .int i=>some (.int (-i))
 | _=>none
theorem Jb (f:PE X a (tV X.K C)):PE X (.UnaryOp .USub a J) (tV X.K (CU uV C)):=(Gj CW f).imp' fun N H Q z=>by
 obtain⟨F,m,L,S,d,t,r,l,q,k⟩:=z;obtain⟨x,w,n,q⟩:=ah q;cases x with
 | int i=>cases q;exact⟨F,m,L,S,_,_,r,l,n,fun v h b e s c p=>⟨i,p,k _ h b e s c rfl⟩⟩
 | _=>cases q
noncomputable def CZ:P->String
 | .non=>"NoneType"
 | .bl _=>"bool"
 | .int _=>"int"
 | .str _=>"str"
 | .tup _=>"tuple"
 | .lst _=>"list"
 | .ro _=>"list"
 | .dct _ _=>"dict"
noncomputable def jJ (T:String) (v:P):Bool:=CZ v == T || (T == "int" && CZ v == "bool")
theorem z0 (T:∀K:FG,∀v:P,PySem.W.kitOne K (.type (CZ v)) (.type L)=some (jJ L v)) :
  c6 X (.builtin "isinstance") (fun m H Q=>∃F d x,m=[x,.ty L]/\RP X.K F H d x/\Q (.bl (jJ L d)) H):=by
 intro B s N H m E Q I r h;obtain⟨F,d,x,rfl,pd,q⟩:=h;obtain⟨u,C,rfl,k,w⟩:=vals2 r;cases (show C=Value.type L from w);have e:=T X.K d;have f:∀l,EP X B N Q (.bool (jJ L d)) { s with toks:=l }:=fun l=>⟨.bl (jJ L d),H,I.tok _,rfl,q⟩
 cases d with
 | non=>cases (show x=.non from pd);exact gw I k (.non) e f
 | bl y=>cases (show x=.bl y from pd);exact gw I k (.bl y) e f
 | int y=>cases (show x=.int y from pd);exact gw I k (.int y) e f
 | str y=>cases (show x=.str y from pd);exact gw I k (.str y) e f
 | tup g=>obtain⟨a,m,rfl,t,j⟩:=pd;cases k;obtain⟨i,_,⟨o,b,c,_⟩,_⟩:=I.tuple t.sq;exact eH PySem.W.kitx_tuple I.kIn ⟨o,b,c⟩ e (fun z=>nomatch z) f
 | lst g=>obtain⟨a,m,rfl,t,j⟩:=pd;cases k;obtain⟨i,_,p,_⟩:=I.list t.sq;obtain⟨o,n,b,c,_⟩:=p;exact eH mU I.kIn ⟨o,b,c⟩ e (fun z=>nomatch z) f
 | ro g=>obtain⟨a,m,rfl,t,j⟩:=pd;cases k;obtain⟨i,_,p,_⟩:=I.list t.sq;obtain⟨o,n,b,c,_⟩:=p;exact eH mU I.kIn ⟨o,b,c⟩ e (fun z=>nomatch z) f
 | dct D O=>obtain⟨a,A,rfl,_,S,_⟩:=pd;exact gw I k (.dK S) e f
theorem zm (K:FG) (v:P):PySem.W.kitOne K (.type (CZ v)) (.type "bool")=some (jJ "bool" v):=by cases v <;> rfl
theorem zl (K:FG) (v:P):PySem.W.kitOne K (.type (CZ v)) (.type "list")=some (jJ "list" v):=by cases v <;> rfl
noncomputable def iZ:List P->Option P
 | [.int i]=>some (.int i)
 | [.bl b]=>some (.int (if b then 1 else 0))
 | _=>none
theorem qt {K:FG}{F:Aa}{H:Hp}{d:P}{s:List V} (r:ci K F H [d] s):∃x,s=[x]/\RP K F H d x:=by obtain⟨x,h,rfl,p,a⟩:=r;cases (show h=[] from a);exact⟨x,rfl,p⟩
theorem BU:c6 X (.type "int") (rC X.K iZ):=by
 intro B s N H n u Q I r h;obtain⟨F,e,d,f,a,q,k⟩:=h;unfold iZ at q;split at q
 .cases q;obtain⟨x,rfl,p⟩:=qt a;exact pA B s N H _ u Q I r (.inl ⟨_,by rw [show x=_ from p],k _ F H .refl rfl⟩)
 .cases q;obtain⟨x,rfl,p⟩:=qt a;exact pA B s N H _ u Q I r (.inr ⟨_,by rw [show x=_ from p],k _ F H .refl rfl⟩)
 .cases q
noncomputable def lU:EE:=fun _ S=>some (.ref S.length,S++[.dct [] []])
theorem x5:PE X (.Dict [] [] J) (tE X.K lU):=yV.imp' fun N H Q z=>by obtain⟨F,m,L,S,d,x,r,l,q,k⟩:=z;cases q;intro p h;refine k (.ref p) F (m++[p]) _ (gg h) (r.own h ⟨[],aE,rfl,rfl⟩) ⟨p,rfl,?_⟩;rw [<- r.len,fV (Nat.le_refl _)];simp
noncomputable def nZ (k:bz) (v:D):List bz->List D->List bz×List D
 | h::s,w::x=>if h=k then (h::s,v::x) else (h::(nZ k v s x).1,w::(nZ k v s x).2)
 | _,_=>([k],[v])
noncomputable def jI (d:D) (S:aD):Option (Nat×List bz×List D):=match d with
 | .ref i=>match S[i]? with
  | some (.dct k O)=>some (i,k,O)
  | _=>none
 | _=>none
theorem qz (h:jI r S=some (i,v,O)):r=.ref i/\S[i]? = some (.dct v O):=by
 unfold jI at h;split at h
 .split at h
  .rename_i e;cases h;exact⟨rfl,e⟩
  .cases h
 .cases h
noncomputable def oo (o:EE) (k v:EV):ES:=fun L S=>aF (v L S) fun y x=>aF (o L x) fun d a=>aF (k L a) fun z h=>match jI d h,cd z with
 | some (i,s,O),some e=>if (s.Nodup/\few s=true) then some (.nx,L,h.set i (.dct (nZ e (.p y) s O).1 (nZ e (.p y) s O).2)) else none
 | _,_=>none
theorem o5 {K:FG}{F:Aa}{H:Hp}{m:List Addr}{k:bz}{y:D}{u:V} (t:RD K F H m y u):∀{v:List (bz×V)}{s:List D},(v.map (·.1)).Nodup->dj K F H m s (v.map (·.2)) ->
  (putK v k u).map (·.1)=(nZ k y (v.map (·.1)) s).1/\dj K F H m (nZ k y (v.map (·.1)) s).2 ((putK v k u).map (·.2))
 | [],s,_,r=>by have:s=[]:=iB r.length;subst this;exact⟨rfl,u,[],rfl,t,rfl⟩
 | (h,w)::v,[],_,r=>by have:=r.length;simp at this
 | (h,w)::v,d::s,i,r=>by
  obtain⟨x,G,e,E,j⟩:=r;rw [List.map_cons] at e i;injection e with o S;subst o;subst S;obtain⟨p,g⟩:=List.nodup_cons.mp i;simp only [List.map_cons,nZ];by_cases n:h=k
  .subst n;rw [if_pos rfl];have f:putK ((h,w)::v) h u=(h,u)::v:=by
    unfold putK;rw [if_pos (by simp)];rw [List.map_cons,if_pos rfl];congr 1;have:∀l:List (bz×V),h ∉ l.map (·.1)->l.map (fun a=>if a.1=h then (a.1,u) else a)=l:=by
     intro l;induction l with
     | nil=>intro _;rfl
     | cons q l C=>
      intro b;rw [List.map_cons] at b;have P:¬q.1=h:=fun z=>b (by rw [<- z];exact List.mem_cons_self)
      rw [List.map_cons,if_neg P,C fun z=>b (aY _ z)]
    exact this v p
   rw [f];exact⟨rfl,u,_,rfl,t,j⟩
  .rw [if_neg n];obtain⟨A,B⟩:=o5 t g j;have f:putK ((h,w)::v) k u=(h,w)::putK v k u:=by
    unfold putK;rw [gB,bq (show ¬(h,w).1=k from n),Bool.false_or];by_cases c:(v.any fun a=>decide (a.1=k))=true
    .rw [if_pos c,if_pos c,List.map_cons,if_neg (show ¬(h,w).1=k from n)]
    .rw [if_neg c,if_neg c];rfl
   rw [f,List.map_cons,List.map_cons,A];exact⟨rfl,w,_,rfl,E,B⟩
theorem IM {o i g:Expr}{T:EE}{k Y:EV}{G:Pos} (hu:X.A.units+1 < cLine) (ho:PE X o (tE X.K T)) (hi:PE X i (tV X.K k)) (hv:PE X g (tV X.K Y)) (hs:swapsWith g (some (.Subscript o i G)) J.line X.env=pure false:=by rfl) :
  PS X (.Assign [.Subscript o i G] g J) (ku X.K (oo T k Y)):=(vA hu ho hi hv hs).imp' fun D N H hz=>by
 obtain⟨F,m,L,S,fl,L',S',r,l,q,h⟩:=hz;obtain⟨y,E,e1,q⟩:=ah q;obtain⟨d,I,e2,q⟩:=ah q;obtain⟨z,M,e3,q⟩:=ah q;refine⟨F,m,L,S,y,E,r,l,e1,fun v C V H1 c r1 p1=>?_⟩;refine⟨C,V,L,E,d,I,r1,l.mono c,e2,fun x F2 m2 H2 p r2 p2=>?_⟩;refine⟨F2,m2,L,I,z,M,r2,(l.mono c).mono p,e3,fun w n b f u B p3=>?_⟩;cases P:jI d M with
 | none=>rw [P] at q;cases q
 | some t=>
  obtain⟨j,ks,O⟩:=t;rw [P] at q;cases K:cd z with
  | none=>rw [K] at q;cases q
  | some e=>
   rw [K] at q;dsimp only at q;split at q
   .rename_i U;cases q;obtain⟨rfl,es⟩:=qz P;obtain⟨a,rfl,A⟩:=RD.mono u p2;obtain⟨s,R,hk,rs⟩:=B.obj j a _ A es;subst hk;have pv:RD X.K n f b (.p y) v:=RD.mono u (RD.mono p (show RD X.K C H1 V (.p y) v from p1));obtain⟨h1,h2⟩:=o5 (k:=e) pv U.1 rs;cases (gJ K p3);have W:∀Z,f a≠some (.tup Z):=fun Z z=>by rw [R] at z;cases z
    have st:Stp n b f n b (cc f a (.dK (putK s e v))):=fG B A es trivial W;have hl:s.length < sizeLine:=by have Q:(s.map (·.1)).length≤1000000:=of_decide_eq_true U.2;rw [b8] at Q;exact kY Q (by decide)
    refine⟨a,_,rfl,tT.k R hl,?_⟩;exact h N n b _ (c.trans (p.trans (u.trans st))) (B.set A es trivial W ⟨_,aE,h1,dj.mono st h2⟩) (((l.mono c).mono p).mono (u.trans st))
   .cases q
end
section
variable {X:Cx}{a b c e:Expr}{es:Ab}{C U q:EV}{fs:fS}{J p:Pos}
noncomputable def gK:List P->Option (List Int)
 | []=>some []
 | .int i::r=>(gK r).map (i::·)
 | _::_=>none
noncomputable def tw:P->P->Option P
 | .dct s O,.dct k v=>if s=k/\s.Nodup/\(gK O).isSome=true/\gK O=gK v then some (.bl true) else none
 | x,y=>Kc x y
theorem l0 {k x:bz}{v:Value}{r:List (bz×Value)} (h:¬x=k):valueAt ((x,v)::r) k=valueAt r k:=by simp [valueAt,jb,h]
theorem l7 {k:bz}{v:Value}{r:List (bz×Value)}:valueAt ((k,v)::r) k=some v:=by simp [valueAt,jb]
theorem sH {K:FG}{F:Aa}{H:Hp}{A:Around}{s:Shared}:∀{n h:List (bz×V)}{C w:List (bz×Value)}{g a:List P}{B:List Int},(n.map (·.1)).Nodup->n.map (·.1)=h.map (·.1)->KV n C->KV h w ->
  ci K F H g (n.map (·.2))->ci K F H a (h.map (·.2))->gK g=some B->gK a=some B->∀{p:List (bz×Value)},(∀k v,valueAt w k=some v->k ∈ h.map (·.1)->valueAt p k=some v)->PySem.W.KeqHits A s p C true
 | [],[],C,w,g,a,B,R,e,Q,o,Y,Z,m,r,p,L=>by cases Q;exact .nil
 | [],_::_,_,_,_,_,_,_,e,_,_,_,_,_,_,_,_=>by simp at e
 | _::_,[],_,_,_,_,_,_,e,_,_,_,_,_,_,_,_=>by simp at e
 | (k,v)::n,(k',v')::h,C,w,g,a,B,R,e,Q,o,Y,Z,m,r,p,L=>by
  cases Q with
  | @cons _ q _ qs h1 t1=>
   cases o with
   | @cons _ q' _ qs' h2 t2=>
    obtain⟨kq,u⟩:=q;obtain⟨kq',u'⟩:=q';obtain⟨e1,rv⟩:=h1;obtain⟨e2,S⟩:=h2;dsimp only at e1 e2 rv S;subst e1;subst e2;rw [List.map_cons,List.map_cons] at e;injection e with ek er;dsimp only at ek;subst ek;rw [List.map_cons] at R;obtain⟨T,U⟩:=List.nodup_cons.mp R;cases g with
    | nil=>have:=ci.length Y;simp at this
    | cons d dr=>
     cases a with
     | nil=>have:=ci.length Z;simp at this
     | cons d' D=>
      obtain⟨x,xr,ex,p1,q1⟩:=Y;obtain⟨x',xr',j,W,X⟩:=Z;rw [List.map_cons] at ex j;injection ex with I J;injection j with l y;subst I J l y;cases d with
      | int i=>
       cases d' with
       | int f=>
        simp only [gK] at m r;cases E:gK dr with
        | none=>rw [E] at m;cases m
        | some js=>
         cases c:gK D with
         | none=>rw [c] at r;cases r
         | some O=>
          rw [E] at m;rw [c] at r;cases m;have N:f::O=i::js:=Option.some.inj r;injection N with z1 z2;subst z1;subst z2;cases (show v=.int f from p1);cases (show v'=.int f from W);obtain⟨t,rfl⟩:=rv;obtain⟨t',rfl⟩:=S;have hy:valueAt p k=some (.int f t'):=L k _ l7 (by simp);have G:SeqAt.EqAt A s (.int f t) (.int f t') true:=by have:=SeqAt.EqAt.int_int (A:=A) (s:=s) f t f t';simpa using this
          have ck:=sH (A:=A) (s:=s) U er t1 t2 q1 X E c (p:=p) fun o v2 hv M=>by
           refine L o v2 ?_ (aY _ M);have:¬k=o:=fun z=>by subst z;rw [<- er] at M;exact T M
           rw [l0 this];exact hv
          have:=PySem.W.KeqHits.hit (e:=true) (b:=true) hy G ck;exact this
       | _=>simp [gK] at r
      | _=>simp [gK] at m
theorem GG (hu:X.A.units+1 < cLine):mu X (compareOp .Eq) tw:=by
 intro B s N H x y v u Q I S K h;obtain⟨F,n,f,d,G,l,z,q,k⟩:=h;have o:Kc n f=some d->wpAny (model X.prog X.w) X.A (compareOp .Eq v u) (EP X B N Q) X.xe s:=fun q=>JR B s N H x y v u Q I S K ⟨F,n,f,d,G,l,z,q,k⟩
 cases n with
 | dct ks O=>
  cases f with
  | dct W vs'=>
   simp only [tw] at q;split at q
   .rename_i M;cases q;obtain⟨g,nd,V,R⟩:=M;obtain⟨a,Y,rfl,C,c,E,ra⟩:=l;obtain⟨b,j,rfl,U,m,p,rb⟩:=z;cases S;cases K;obtain⟨za,J,ws,r,P⟩:=wc I.hok c;obtain⟨zb,L,w,e,D⟩:=wc I.hok m;obtain⟨is,i⟩:=Option.isSome_iff_exists.mp V;subst E;have t:=sH (A:=X.A.in1) (s:=s) nd (by rw [p];exact g) r e ra rb i (by rw [<- R];exact i) (p:=w) fun _ _ h _=>h
    refine PySem.W.keq_eq J L P D (by lia) (fun _=>t) ?_;have T:ws.length=w.length:=by have l1:=r.length;have l2:=e.length;have Z:=congrArg List.length g;rw [<- p,b8,b8] at Z;lia
    rw [T];simp only [beq_self_eq_true,Bool.and_self];exact⟨.bl true,H,I,rfl,k _ F H .refl rfl⟩
   .cases q
  | _=>exact o q
 | _=>exact o q
noncomputable def signs (x:Str):List P:=x.cps.toList.map fun c=>.str ⟨#[c]⟩
noncomputable def K4 (x:Str):It:=⟨fun i _=>i < x.cps.size,fun i H v h=>h=H/\∃c,x.cps[i]? = some c/\v=.str ⟨#[c]⟩,fun i _=>x.cps.size≤i⟩
theorem wF {P:Program}{w:World}{K:FG}{M:Expr} (n:Addr) (x:Str) (t:Tok):Turn P w K M (K4 x) [n] n (fun i h=>h.IsStrIter n "str_ascii_iterator" x t i) where
 mem:=by simp
 obj:=fun i h st b a=>by
  have e:b=n:=by simpa using a
  subst e;obtain⟨o,e,c,d⟩:=st;exact⟨o,e,fun v z=>by rw [d] at z;cases z⟩
 keep:=fun i h m st k=>let ⟨o,e,r⟩:=st;⟨o,k n (by simp) o e,r⟩
 item:=by
  intro X F hw S A i B s N H E I p st g;subst F hw S;obtain⟨q,u,J,j,l,y⟩:=p n (by simp);have C:x.cps[i]? = some (x.cps[i]'g):=ub g;refine wpAny_pyNext_ascii_item st C fun m f L=>?_
  have D:L2.Inv X B N H { s with heap:=m,toks:=s.toks+1 }:=I.turned (fun b o a e=>(L.2 b a).trans e) q u j l y;obtain⟨o,e,c,d⟩:=id f;exact⟨_,rfl,vX (s:={ s with heap:=m,toks:=s.toks+1 }) e c d (by decide) ⟨.str ⟨#[x.cps[i]'g]⟩,H,D,⟨_,rfl⟩,⟨rfl,_,C,rfl⟩,f,fun b a=>(p b a).1⟩⟩
 done:=by intro X F hw S A i B s N H E I p st g;subst F hw S;obtain⟨q,u,J,j,l,y⟩:=p n (by simp);exact wpAny_pyNext_ascii_end (I.ok.hd A) st (by rw [Array.getElem?_eq_none_iff];exact g) fun m G=>⟨rfl,I.turned (t':=s.toks) (fun b o a e=>G b o a e) q u j l y⟩
 self:=fun _ _ _ _ _ st h=>wpAny_pyIter_striter_ascii st h
theorem Ed {K:FG}{F:Aa}{m:List Addr}{H:Hp}{x:Str}:B3 K (K4 x) (signs x) F m H:=by
 intro a r f s;have h:(signs x).length=x.cps.size:=by unfold signs;simp
 refine⟨fun i v e=>?_,by show x.cps.size≤(signs x).length;rw [h];exact Nat.le_refl _⟩;have k:i < x.cps.size:=by rw [<- h];exact (List.getElem?_eq_some_iff.mp e).1
 refine⟨k,fun y b z=>?_⟩;obtain⟨rfl,c,n,rfl⟩:=z;refine⟨a,.refl,?_⟩;unfold signs at e;rw [List.getElem?_map,Array.getElem?_toList,n] at e;cases e;exact rfl
noncomputable def hG (a:EV):fS:=fun L S=>aF (a L S) fun v h=>match v with
 | .lst s=>some (s,h)
 | .ro s=>some (s,h)
 | .tup s=>some (s,h)
 | .str x=>if (x.cps.all (· < 128))=true then some (signs x,h) else none
 | _=>none
theorem iS {T iter:Expr} (h:PE X iter (tV X.K C)):PI X T iter (tI X.K (hG C)):=by
 intro B s N H R I ⟨F,m,L,S,O,Y,r,l,q,k⟩;obtain⟨v,D,Z,q⟩:=ah q;refine cK (h B s N H (fun x f=>∃d g,Stp F m H d g f/\Rel X.K d f g D/\RP X.K d f v x) I ⟨F,m,L,S,v,D,r,l,Z,fun x d g f n G j=>⟨d,g,n,G,j⟩⟩) fun u n E=>?_
 obtain⟨x,f,c,M,d,g,st,G,j⟩:=E;have mk:∀{J:It},B3 X.K J O d g f->D=Y->R J f:=fun it e=>by subst e;exact k _ d g f st G it
 have i:∀{a:Addr}{A:List V},x=.ref a->gQ X.K f a A->R (II X.K a) f->wpAny (model X.prog X.w) X.A (pyIter u) (IF X B N T R) X.xe n:=fun {a A} e hq q=>by
  subst e;cases M;obtain⟨K,rv,p,E⟩:=c.list hq;refine wpAny_pyIter_list p.isList ?_;refine⟨n.heap.objs.size,[n.heap.objs.size],_,_,f,rfl,c.kept (t':=n.toks) fun b o e=>Heap.get?_push_of_some _ e,wG a _,⟨_,Heap.get?_push_size _ rfl,rfl,rfl⟩,fun b y=>?_,q⟩;have e:b=n.heap.objs.size:=by simpa using y
  subst e;exact c.fpOk (Nat.le_refl _) (c.hok.fresh (Nat.le_refl _))
 cases v with
 | lst Q=>cases q;obtain⟨a,A,rfl,w,P⟩:=j;exact i rfl w.sq (mk (zo (fun U m2 W s=>(w.kp s.kp).sq) P) rfl)
 | ro Q=>cases q;obtain⟨a,A,rfl,w,P⟩:=j;exact i rfl w.sq (mk (zo (fun U m2 W s=>(w.kp s.kp).sq) P) rfl)
 | tup Q=>
  cases q;obtain⟨a,A,rfl,w,P⟩:=j;cases M;obtain⟨K,rv,pp,E⟩:=c.tuple w.sq;refine wpAny_pyIter_tuple (show n.heap.IsTuple a K.toArray from pp) ?_;refine⟨n.heap.objs.size,[n.heap.objs.size],_,_,f,rfl,c.kept (t':=n.toks) fun b o e=>Heap.get?_push_of_some _ e,uf a _,⟨_,Heap.get?_push_size _ rfl,rfl,rfl⟩,fun b y=>?_,mk (Ee w P) rfl⟩;have e:b=n.heap.objs.size:=by simpa using y
  subst e;exact c.fpOk (Nat.le_refl _) (c.hok.fresh (Nat.le_refl _))
 | str z=>
  dsimp only at q;split at q
  .rename_i ha;cases q;cases (show x=.str z from j);obtain⟨t,rfl⟩:=(show ∃t,u=Value.str z t from M);refine wpAny_pyIter_ascii ha ?_;refine⟨n.heap.objs.size,[n.heap.objs.size],_,_,f,rfl,c.kept (t':=n.toks) fun b o e=>Heap.get?_push_of_some _ e,wF _ z t,⟨_,Heap.get?_push_size _ rfl,rfl,rfl⟩,fun b y=>?_,mk Ed rfl⟩;have e:b=n.heap.objs.size:=by simpa using y
   subst e;exact c.fpOk (Nat.le_refl _) (c.hok.fresh (Nat.le_refl _))
  .cases q
 | _=>cases q
end
section
variable {X:Cx}{J p:Pos}
noncomputable abbrev DE:=List (Str×EV)
end
mutual
noncomputable def pd:P->PyData
 | .non=>.none
 | .bl b=>.bool b
 | .int i=>.int i
 | .str x=>.str x
 | .tup xs=>.tuple (lg xs)
 | .lst xs=>.list (lg xs)
 | .ro xs=>.list (lg xs)
 | .dct _ _=>.none
noncomputable def lg:List P->List PyData
 | []=>[]
 | x::r=>pd x::lg r
end
noncomputable def bR:Nat->P->Bool
 | _,.non=>true
 | _,.bl _=>true
 | _,.int _=>true
 | _,.str x=>PyData.strOk x
 | n+1,.tup s=>s.all (bR n)
 | n+1,.lst s=>s.all (bR n)
 | n+1,.ro s=>s.all (bR n)
 | _,_=>false
variable {n:Nat}
theorem mK:∀{s:List P},(∀d ∈ s,(pd d).canLay0=true/\(pd d).depth≤n)->PyData.canLayAll0 (lg s)=true/\PyData.depthAll (lg s)≤n
 | [],_=>⟨rfl,Nat.zero_le _⟩
 | d::r,h=>by obtain⟨⟨p,a⟩,q⟩:=List.forall_mem_cons.mp h;obtain⟨x,e⟩:=mK q;exact⟨by simp only [lg,PyData.canLayAll0,p,x,Bool.and_self],by simp only [lg,PyData.depthAll];lia⟩
theorem eX:∀(n:Nat) (p:P),bR n p=true->(pd p).canLay0=true/\(pd p).depth≤n
 | _,.non,_=>⟨rfl,Nat.zero_le _⟩
 | _,.bl _,_=>⟨rfl,Nat.zero_le _⟩
 | _,.int _,_=>⟨rfl,Nat.zero_le _⟩
 | n,.str x,h=>⟨by cases n <;> exact h,Nat.zero_le _⟩
 | n,.dct _ _,h=>by cases n <;> cases h
 | 0,.tup _,h=>by cases h
 | 0,.lst _,h=>by cases h
 | 0,.ro _,h=>by cases h
 | n+1,.tup s,h=>by obtain⟨a,b⟩:=mK fun d hd=>eX n d (bn.mp h d hd);exact⟨a,by simp only [pd,PyData.depth];lia⟩
 | n+1,.lst s,h=>by obtain⟨a,b⟩:=mK fun d hd=>eX n d (bn.mp h d hd);exact⟨a,by simp only [pd,PyData.depth];lia⟩
 | n+1,.ro s,h=>by obtain⟨a,b⟩:=mK fun d hd=>eX n d (bn.mp h d hd);exact⟨a,by simp only [pd,PyData.depth];lia⟩
theorem iJ (h:bR 20 p=true):SeqAt.shaped (pd p)=true:=by obtain⟨x,a⟩:=eX 20 p h;unfold SeqAt.shaped;rw [x,Bool.true_and];exact iq (by lia)
section
variable {X:Cx}{B:PN}{N:L2.St}{H:Hp}{s:Shared}{F:Aa}
theorem gR (o:∀{p:P}{v:V}{u:Value},RP X.K F H p v->RelV v u->bR n p=true->∃k,Reads s.heap u (pd p) k) :
  ∀{f:List P}{a:List V}{b:LV},ci X.K F H f a->aL a b->(∀d ∈ f,bR n d=true)->∃k,ReadsAll s.heap b (lg f) k
 | [],a,b,r,v,_=>by cases (show a=[] from r);cases v;exact⟨_,.nil⟩
 | d::f,a,b,r,v,h=>by
  obtain⟨x,i,rfl,p,r⟩:=r;cases v with
  | cons w t=>obtain⟨k,q⟩:=o p w (h d (.head _));obtain⟨g,m⟩:=gR o r t fun e c=>h e (.tail _ c);exact⟨_,.cons q m⟩
theorem hY (I:Inv X B N H s):∀(n:Nat) {p:P}{v:V}{u:Value},RP X.K F H p v->RelV v u->bR n p=true->∃w,Reads s.heap u (pd p) w:=by
 intro n;induction n with
 | zero=>
  intro p v u r k h;cases p with
  | non=>cases (show v=.non from r);cases k;exact⟨_,.none⟩
  | bl b=>cases (show v=.bl b from r);cases k;exact⟨_,.bool b⟩
  | int i=>cases (show v=.int i from r);obtain⟨t,rfl⟩:=k;exact⟨_,.int i t⟩
  | str x=>cases (show v=.str x from r);obtain⟨t,rfl⟩:=k;exact⟨_,.str x t⟩
  | _=>simp [bR] at h
 | succ n y=>
  intro p v u r k h;cases p with
  | non=>cases (show v=.non from r);cases k;exact⟨_,.none⟩
  | bl b=>cases (show v=.bl b from r);cases k;exact⟨_,.bool b⟩
  | int i=>cases (show v=.int i from r);obtain⟨t,rfl⟩:=k;exact⟨_,.int i t⟩
  | str x=>cases (show v=.str x from r);obtain⟨t,rfl⟩:=k;exact⟨_,.str x t⟩
  | dct A O=>simp [bR] at h
  | tup z=>obtain⟨a,K,rfl,l,j⟩:=r;cases k;obtain⟨g,f,⟨o,e,c,m,d⟩,S⟩:=I.tuple l.sq;obtain⟨w,q⟩:=gR y j f (by simpa [bR] using h);rw [pd];exact⟨w,reads_tuple_at e c d (by simpa using q)⟩
  | lst z=>obtain⟨a,K,rfl,l,j⟩:=r;cases k;obtain⟨g,f,⟨o,m,e,c,_,d⟩,S⟩:=I.list l.sq;obtain⟨w,q⟩:=gR y j f (by simpa [bR] using h);rw [pd];exact⟨_,reads_list_at e c d (by simpa using q)⟩
  | ro z=>obtain⟨a,K,rfl,l,j⟩:=r;cases k;obtain⟨g,f,⟨o,m,e,c,_,d⟩,S⟩:=I.list l.sq;obtain⟨w,q⟩:=gR y j f (by simpa [bR] using h);rw [pd];exact⟨_,reads_list_at e c d (by simpa using q)⟩
end
noncomputable def ou (f:D->Option P):List D->Option (List P)
 | []=>some []
 | d::r=>(f d).bind fun v=>(ou f r).map fun O=>v::O
noncomputable def eT (S:aD):Nat->D->Option P
 | _,.p v=>some v
 | 0,.ref _=>none
 | n+1,.ref i=>match S[i]? with
  | some (.lst d)=>(ou (eT S n) d).map .lst
  | some (.fz v)=>some v
  | _=>none
@[simp] theorem uq (S:aD) (n:Nat) (v:P):eT S n (.p v)=some v:=by cases n <;> rfl
section
variable {X:Cx}{B:PN}{N:L2.St}{H:Hp}{s:Shared}{F:Aa}{m:List Addr}{S:aD}
theorem nB (o:∀{d:D}{v:V}{u:Value}{p:P},RD X.K F H m d v->RelV v u->eT S n d=some p->bR L p=true->∃b,Reads s.heap u (pd p) b) :
  ∀{k:List D}{f:List V}{c:LV}{ps:List P},dj X.K F H m k f->aL f c->ou (eT S n) k=some ps->(∀d ∈ ps,bR L d=true)->∃b,ReadsAll s.heap c (lg ps) b
 | [],f,c,ps,r,v,q,_=>by cases (show f=[] from r);cases v;cases q;exact⟨_,.nil⟩
 | d::k,f,c,ps,r,v,q,h=>by
  obtain⟨x,A,rfl,p,r⟩:=r;obtain⟨y,i,q⟩:∃a,eT S n d=some a/\(ou (eT S n) k).map (fun O=>a::O)=some ps:=by
   cases e:eT S n d with
   | none=>simp [ou,e] at q
   | some a=>exact⟨a,rfl,by simpa [ou,e] using q⟩
  obtain⟨B,j,rfl⟩:∃a,ou (eT S n) k=some a/\ps=y::a:=by
   cases e:ou (eT S n) k with
   | none=>rw [e] at q;cases q
   | some a=>rw [e] at q;cases q;exact⟨a,rfl,rfl⟩
  cases v with
  | cons z l=>obtain⟨b,g⟩:=o p z i (h y (.head _));obtain⟨K,t⟩:=nB o r l j fun e w=>h e (.tail _ w);exact⟨_,.cons g t⟩
theorem fw (I:Inv X B N H s) (y:Rel X.K F H m S):∀(n k:Nat) {d:D}{v:V}{u:Value}{p:P},RD X.K F H m d v->RelV v u->eT S n d=some p->bR k p=true->∃b,Reads s.heap u (pd p) b:=by
 intro n;induction n with
 | zero=>
  intro k d v u p r x q h;cases d with
  | p w=>rw [uq] at q;cases q;exact hY I k r x h
  | ref i=>cases q
 | succ n C=>
  intro k d v u p r x q h;cases d with
  | p w=>rw [uq] at q;cases q;exact hY I k r x h
  | ref i=>
   obtain⟨a,rfl,g⟩:=r;have A:i < S.length:=by rw [<- y.len];exact (List.getElem?_eq_some_iff.mp g).1
   obtain⟨o,j⟩:∃o,S[i]? = some o:=⟨S[i],by simp [A]⟩;have l:=y.obj i a o g j;simp only [eT,j] at q;cases o with
   | fz w=>cases q;exact hY I k l x h
   | dct L t=>cases q
   | ins _ _ _=>cases q
   | exc _=>cases q
   | dtt _ _=>cases q
   | lst t=>
    dsimp only at q;cases e:ou (eT S n) t with
    | none=>rw [e] at q;cases q
    | some O=>
     rw [e] at q;cases q;cases k with
     | zero=>simp [bR] at h
     | succ k=>obtain⟨Q,K,G⟩:=l;cases x;obtain⟨E,f,⟨o,M,z,c,_,d⟩,J⟩:=I.list (gQ.of K);obtain⟨b,q⟩:=nB (L:=k) (fun r x q h=>C k r x q h) G f e (by simpa [bR] using h);rw [pd];exact⟨_,reads_list_at z c d (by simpa using q)⟩
theorem iG (l:Rel X.K F H m S) (r:RD X.K F H m u v) (q:eT S n u=some p) (k:∀c,p≠.lst c):RP X.K F H p v:=by
 cases u with
 | p w=>rw [uq] at q;cases q;exact r
 | ref i=>
  cases n with
  | zero=>cases q
  | succ n=>
   obtain⟨a,rfl,h⟩:=r;have s:i < S.length:=by rw [<- l.len];exact (List.getElem?_eq_some_iff.mp h).1
   obtain⟨o,x⟩:∃o,S[i]? = some o:=⟨S[i],by simp [s]⟩;have b:=l.obj i a o h x;simp only [eT,x] at q;cases o with
   | fz w=>cases q;exact b
   | dct t d=>cases q
   | ins _ _ _=>cases q
   | exc _=>cases q
   | dtt _ _=>cases q
   | lst d=>
    dsimp only at q;cases e:ou (eT S n) d with
    | none=>rw [e] at q;cases q
    | some f=>rw [e] at q;cases q;exact absurd rfl (k f)
end
inductive rEI (K:FG) (g:D->D->aD->Option P) (x:V) (y:V) (H:Hp) (Q:VK):Prop
 | mk (F:Aa) (m:List Addr) (S:aD) (d:D) (e:D) (v:P) (h0_:Rel K F H m S) (h1_:RD K F H m d x) (h2_:RD K F H m e y) (h3_:g d e S=some v) (h4_:∀u F' H',Grow F H F' H'->RP K F' H' v u->Q u H'):rEI K g x y H Q
noncomputable def rE (K:FG) (g:D->D->aD->Option P):R2:=fun x y H Q=>rEI K g x y H Q
noncomputable def aA (g:D->D->aD->Option P) (a b:EE):EV:=fun L S=>aF (a L S) fun x e=>aF (b L e) fun y h=>(g x y h).map fun v=>(v,h)
section
variable {X:Cx}{a b:Expr}{C U:EE}{J:Pos}
theorem vo (h:tV X.K (aA a0 C U) N H Q):C3 (rE X.K a0) (tE X.K C) (tE X.K U) N H Q:=by
 obtain⟨F,m,L,S,d,o,r,l,q,k⟩:=h;obtain⟨x,a,K,q⟩:=ah q;obtain⟨y,s,P,q⟩:=ah q;refine⟨F,m,L,S,x,a,r,l,K,fun v t A I b G B=>?_⟩;refine⟨t,A,L,a,y,s,G,l.mono b,P,fun u p n J c f D=>?_⟩;cases e:a0 x y s with
 | none=>rw [e] at q;cases q
 | some z=>rw [e] at q;cases q;exact⟨p,n,o,x,y,_,f,RD.mono c B,D,e,fun w i j g E=>k w i n j (b.trans (c.trans g.stp)) (f.grow g) E⟩
theorem Fw (o:io X (compareOp v) (rE X.K r)) (x:PE X a (tE X.K C)) (e:PE X b (tE X.K U)) (m:behindInMarks v b=false):PE X (.Compare a [v] [b] J) (tV X.K (aA r C U)):=
 (vG o x e m).imp' fun _ _ _ h=>vo h
theorem Fk (o:io X (compareOp op) (rE X.K u)) (c:PE X a (tE X.K C)) (t:PE X b (tE X.K U)) (w:behindInMarks op b=false):PT X (.Compare a [op] [b] J) (tQ X.K (bV (aA u C U))):=
 (vx o c t w).imp' fun N H Q h=>by
  refine vo ?_;obtain⟨F,m,L,S,d,j,r,l,q,k⟩:=h;obtain⟨x,y,f,q⟩:=ah q;cases x with
  | bl b=>cases q;exact⟨F,m,L,S,_,_,r,l,f,fun v e g n s i p=>⟨_,p,k e g n s i⟩⟩
  | _=>cases q
end
noncomputable def xt (x y:P):Option Bool:=match tw x y with
 | some (.bl b)=>some b
 | _=>if (bR 20 x && bR 20 y)=true then some (PyData.eqv (pd x) (pd y)) else none
noncomputable def dC (d e:D) (S:aD):Option P:=(eT S 9 d).bind fun x=>(eT S 9 e).bind fun y=>(xt x y).map .bl
noncomputable def y7 (x y:P):Option Bool:=match Ew x y with
 | some (.bl b)=>some b
 | _=>if (bR 20 x && bR 20 y)=true then some (!PyData.eqv (pd x) (pd y)) else none
noncomputable def oz (d e:D) (S:aD):Option P:=(eT S 9 d).bind fun x=>(eT S 9 e).bind fun y=>(y7 x y).map .bl
noncomputable def lX (c:D) (S:aD):Option (List bz):=match c with
 | .p (.dct k _)=>some k
 | .ref i=>match S[i]? with
  | some (.dct k _)=>some k
  | some (.fz (.dct k _))=>some k
  | _=>none
 | _=>none
noncomputable def J3 (x c:P):Option Bool:=match x,c with
 | .str i,.str j=>some (!(Builtin.Str.occurrences j i 0 j.length 1).isEmpty)
 | x,.lst s=>if (s.all (bR 19) && bR 19 x)=true then some (s.any fun y=>PyData.eqv (pd y) (pd x)) else none
 | x,.ro s=>if (s.all (bR 19) && bR 19 x)=true then some (s.any fun y=>PyData.eqv (pd y) (pd x)) else none
 | x,.tup s=>if (s.all (bR 19) && bR 19 x)=true then some (s.any fun y=>PyData.eqv (pd y) (pd x)) else none
 | _,_=>none
noncomputable def xm (k:bz) (s:List bz):Bool:=s.any fun h=>decide (h=k)
noncomputable def EX (d c:D) (S:aD):Option Bool:=match lX c S with
 | some s=>(eT S 9 d).bind fun x=>(cd x).map fun k=>xm k s
 | none=>(eT S 9 d).bind fun x=>(eT S 9 c).bind fun y=>J3 x y
noncomputable def Ct (d c:D) (S:aD):Option P:=(EX d c S).map .bl
noncomputable def dR:D->Bool
 | .p .non=>true
 | _=>false
noncomputable def rV (d e:D) (_:aD):Option P:=match e with
 | .p .non=>some (.bl (dR d))
 | _=>none
noncomputable def db (d e:D) (_:aD):Option P:=match e with
 | .p .non=>some (.bl (!dR d))
 | _=>none
theorem uW (h:tw x r=some b):(∀s,x≠.lst s)/\∀s,r≠.lst s:=by
 refine⟨fun s e=>?_,fun s e=>?_⟩
 .subst e;cases r <;> cases h
 .subst e;cases x <;> cases h
section
variable {X:Cx}
theorem GD (o:X.A.units+64 < cLine):io X (compareOp .Eq) (rE X.K dC):=by
 intro B s N H x y v u Q I j z h;obtain⟨F,m,S,d,e,r,l,g,i,q,k⟩:=h;unfold dC at q;cases t:eT S 9 d with
 | none=>rw [t] at q;cases q
 | some a=>
  rw [t] at q;cases p:eT S 9 e with
  | none=>rw [p] at q;cases q
  | some b=>
   rw [p] at q;simp only [pM] at q;cases n:xt a b with
   | none=>rw [n] at q;cases q
   | some c=>
    rw [n] at q;cases q;unfold xt at n;split at n
    .rename_i G w;cases n;obtain⟨K,P⟩:=uW w;exact GG (by lia) B s N H x y v u Q I j z ⟨F,a,b,.bl c,l.ft,iG l g t K,iG l i p P,w,k⟩
    .split at n
     .rename_i f;rw [Bool.and_eq_true] at f;cases n;obtain⟨D,A⟩:=fw I l 9 20 g j t f.1;obtain⟨E,C⟩:=fw I l 9 20 i z p f.2;exact eq_dataH A C (iJ f.1) (iJ f.2) o ⟨.bl _,H,I,rfl,k _ F H .refl rfl⟩
     .cases n
theorem xJ (h:Ew x r=some b):(∀s,x≠.lst s)/\∀s,r≠.lst s:=by
 refine⟨fun s e=>?_,fun s e=>?_⟩
 .subst e;cases r <;> cases h
 .subst e;cases x <;> cases h
theorem Gw (o:X.A.units+64 < cLine):io X (compareOp .NotEq) (rE X.K oz):=by
 intro B s N H x y v u Q I j z h;obtain⟨F,m,S,d,e,r,l,g,i,q,k⟩:=h;unfold oz at q;cases t:eT S 9 d with
 | none=>rw [t] at q;cases q
 | some a=>
  rw [t] at q;cases p:eT S 9 e with
  | none=>rw [p] at q;cases q
  | some b=>
   rw [p] at q;simp only [pM] at q;cases n:y7 a b with
   | none=>rw [n] at q;cases q
   | some c=>
    rw [n] at q;cases q;unfold y7 at n;split at n
    .rename_i G w;cases n;obtain⟨K,P⟩:=xJ w;exact JM B s N H x y v u Q I j z ⟨F,a,b,.bl c,l.ft,iG l g t K,iG l i p P,w,k⟩
    .split at n
     .rename_i f;rw [Bool.and_eq_true] at f;cases n;obtain⟨D,A⟩:=fw I l 9 20 g j t f.1;obtain⟨E,C⟩:=fw I l 9 20 i z p f.2;exact ne_dataH A C (iJ f.1) (iJ f.2) o ⟨.bl _,H,I,rfl,k _ F H .refl rfl⟩
     .cases n
theorem qy (x:P):∀s:List P,(lg s).any (fun y=>PyData.eqv y (pd x))=s.any fun y=>PyData.eqv (pd y) (pd x)
 | []=>rfl
 | y::r=>by rw [lg,gB,gB,qy x r]
theorem Cf (h:r.all (bR 19)=true):PyData.canLayAll0 (lg r)=true/\PyData.depthAll (lg r)≤20:=by have l:=eX 20 (.lst r) h;simp only [pd,PyData.canLay0,PyData.depth] at l;have x:=l.2;exact⟨l.1,by lia⟩
theorem wE:(fL u v).isSome=xm v (u.map (·.1)):=by
 induction u with
 | nil=>rfl
 | cons p r i=>
  unfold xm at i ⊢;by_cases h:p.1=v
  .rw [gE h,List.map_cons,gB,iq h];rfl
  .rw [fK h,i,List.map_cons,gB,bq h];rfl
theorem zW {K:FG}{F:Aa}{H:Hp}{m:List Addr}{S:aD}{c:D}{y:V}{n:List bz} (r:Rel K F H m S) (p:RD K F H m c y) (q:lX c S=some n):∃a k,y=.ref a/\H a=some (.dK k)/\k.map (·.1)=n:=by
 unfold lX at q;split at q
 .cases q;obtain⟨a,k,e,_,x,h,_⟩:=p;exact⟨a,k,e,x,h⟩
 .rename_i i;obtain⟨a,rfl,s⟩:=p;split at q
  .rename_i o;cases q;obtain⟨k,x,h,_⟩:=r.obj i a _ s o;exact⟨a,k,rfl,x,h⟩
  .rename_i o;cases q;obtain⟨b,k,e,_,x,h,_⟩:=r.obj i a _ s o;cases e;exact⟨a,k,rfl,x,h⟩
  .cases q
 .cases q
theorem GA (T:X.A.units+64 < cLine):io X (compareOp .In) (rE X.K Ct):=by
  intro B s N H x y v u Q I o K h;obtain⟨F,m,S,d,e,r,l,g,i,q,k⟩:=h;unfold Ct EX at q;cases w:lX e S with
  | some U=>
    rw [w] at q;dsimp only at q;cases t:eT S 9 d with
    | none=>rw [t] at q;cases q
    | some a=>
      rw [t] at q;simp only [pM] at q;cases f:cd a with
      | none=>rw [f] at q;cases q
      | some J=>
        rw [f] at q;cases q;obtain⟨b,L,rfl,G,n⟩:=zW l i w;have M:RP X.K F H a x:=iG l g t fun D z=>by subst z;cases f
        cases K;cases gJ f M;exact J' (by lia) I (iX.k G) o fun V E=>⟨.bl _,H,E,rfl,by rw [wE,n];exact k _ F H .refl rfl⟩
  | none=>
    rw [w] at q;dsimp only at q;cases t:eT S 9 d with
    | none=>rw [t] at q;cases q
    | some a=>
      rw [t] at q;cases f:eT S 9 e with
      | none=>rw [f] at q;cases q
      | some b=>
        rw [f] at q;simp only [pM] at q;cases n:J3 a b with
        | none=>rw [n] at q;cases q
        | some c=>
          rw [n] at q;cases q;unfold J3 at n;split at n
          · cases n
            cases (show x=.str _ from iG l g t fun D z=>by cases z);cases (show y=.str _ from iG l i f fun D z=>by cases z);exact wW B s N H _ _ v u Q I o K ⟨_,_,rfl,rfl,k _ F H .refl rfl⟩
          all_goals first
            | (cases n;done)
            | (split at n
               · rename_i p
                 rw [Bool.and_eq_true] at p;cases n;obtain⟨O,j⟩:=fw I l 9 20 i K f (by simpa [bR] using p.1);obtain⟨R,C⟩:=fw I l 9 19 g o t p.2;have P:=Cf p.1;have A:=eX 19 _ p.2;rw [pd] at j;first
                   | exact SeqAt.in_list_reads j C P.1 A.1 (by lia) ⟨.bl _,H,I,rfl,by rw [qy];exact k _ F H .refl rfl⟩
                   | exact SeqAt.in_tuple_reads j C P.1 A.1 (by lia) ⟨.bl _,H,I,rfl,by rw [qy];exact k _ F H .refl rfl⟩
               · cases n)
theorem Gz:io X (compareOp .Is) (rE X.K rV):=by
 intro B s N H x y v u Q I c t h;obtain⟨F,m,S,d,e,r,l,n,f,q,k⟩:=h;unfold rV at q;split at q
 .cases q;cases (show y=.non from f);refine DH B s N H x _ v u Q I c t ⟨rfl,?_⟩;have:decide (x=.non)=dR d:=by
   cases d with
   | ref i=>obtain⟨a,rfl,_⟩:=n;rfl
   | p w=>
    cases w with
    | non=>cases (show x=.non from n);rfl
    | bl b=>cases (show x=.bl b from n);rfl
    | int b=>cases (show x=.int b from n);rfl
    | str b=>cases (show x=.str b from n);rfl
    | _=>(obtain⟨a,g,rfl,_⟩:=n;rfl)
  rw [this];exact k _ F H .refl rfl
 .cases q
theorem y3:io X (compareOp .IsNot) (rE X.K db):=by
 intro B s N H x y v u Q I c t h;obtain⟨F,m,S,d,e,r,l,n,f,q,k⟩:=h;unfold db at q;split at q
 .cases q;cases (show y=.non from f);refine Bg B s N H x _ v u Q I c t ⟨rfl,?_⟩;have:decide (x=.non)=dR d:=by
   cases d with
   | ref i=>obtain⟨a,rfl,_⟩:=n;rfl
   | p w=>
    cases w with
    | non=>cases (show x=.non from n);rfl
    | bl b=>cases (show x=.bl b from n);rfl
    | int b=>cases (show x=.int b from n);rfl
    | str b=>cases (show x=.str b from n);rfl
    | _=>(obtain⟨a,g,rfl,_⟩:=n;rfl)
  rw [this];exact k _ F H .refl rfl
 .cases q
end
noncomputable def nL:List i4->List P->Lc->Option Lc
 | [],[],L=>some L
 | g::s,v::O,L=>match g v L with
  | some h=>nL s O h
  | none=>none
 | _,_,_=>none
noncomputable def aI (g:List i4):i4:=fun v L=>match v with
 | .tup O=>nL g O L
 | _=>none
theorem sO:∀{s:List i4}{O:List P}{L x:Lc},nL s O L=some x->O.length=s.length
 | [],[],_,_,_=>rfl
 | [],_::_,_,_,h=>by cases h
 | _::_,[],_,_,h=>by cases h
 | g::s,v::O,L,x,h=>by
  unfold nL at h;split at h
  .rw [bc,bc,sO h]
  .cases h
inductive gTsI (K:FG) (gs:List i4) (xs:List V) (σ:L2.St) (H:Hp) (Q:L2.St->Hp->Prop):Prop
 | mk (F:Aa) (m:List Addr) (L:Lc) (vs:List P) (L':Lc) (h0_:RL K F H m σ L) (h1_:ci K F H vs xs) (h2_:nL gs vs L=some L') (h3_:∀σ',RL K F H m σ' L'->Q σ' H):gTsI K gs xs σ H Q
noncomputable def Lx (K:FG) (g:List i4):EL:=fun x N H Q=>gTsI K g x N H Q
noncomputable def Eh:Expr->Bool
 | .Name _ _=>true
 | _=>false
inductive GsOk (X:Cx):Ab->List i4->Prop where
 | nil:GsOk X [] []
 | cons {e:Expr}{es:Ab}{g:i4}{gs:List i4}:Eh e=true->PG X e (gT X.K g)->GsOk X es gs->GsOk X (e::es) (g::gs)
section
variable {X:Cx}{J:Pos}
theorem jX (h:Eh e=true):assignEach (e::es) v=(false,assign e v)::assignEach es v:=by cases e <;> first | rfl | cases h
theorem GsOk.len (h:GsOk X es r) (e:Env):(assignEach es e).length=r.length/\(assignEach es e).findIdx? (·.1)=none:=by
 induction h with
 | nil=>exact⟨rfl,rfl⟩
 | cons n _ _ i=>rw [jX n];refine⟨by rw [bc,bc,i.1],?_⟩;simp only [List.findIdx?_cons,i.2];rfl
theorem GsOk.pgs (h:GsOk X es gs):HI X es (Lx X.K gs):=by
 induction h with
 | nil=>
  intro B s N H f u Q I a ⟨F,m,L,O,e,l,r,q,k⟩;cases O with
  | nil=>cases q;cases (show f=[] from r);exact A' B s N H [] u Q I a ⟨rfl,k N l⟩
  | cons _ _=>cases q
 | cons c g _ i=>
  intro B s N H f u Q I a ⟨F,m,L,O,e,l,r,q,k⟩;cases O with
  | nil=>cases q
  | cons v O=>
   unfold nL at q;split at q
   .rename_i n b;obtain⟨x,d,rfl,p,r⟩:=r;refine yM g i (by rw [jX c];rfl) B s N H _ u Q I a ⟨x,d,rfl,F,m,L,v,n,l,p,b,fun w t=>?_⟩;exact⟨F,m,n,O,e,t,r,q,k⟩
   .cases q
theorem Ej (c:X.calm=true) (h:GsOk X es r):PG X (.Tuple es n J) (gT X.K (aI r)):=
 PG.imp' (Dt c h.pgs (h.len _).1 (h.len _).2) fun v N H Q z=>by
  obtain⟨F,m,L,d,x,l,p,q,k⟩:=z;cases d with
  | tup O=>obtain⟨a,f,rfl,t,e⟩:=p;have s:=sO (show nL r O L=some x from q);exact⟨a,f,rfl,t.sq,by rw [<- e.length];exact s,F,m,L,O,x,l,e,q,k⟩
  | _=>cases q
noncomputable def B2 (K:FG) (a:Addr):It:=
 ⟨fun i H=>∃s x,gQ K H a s/\s[i]? = some x,fun i H x h=>∃p y,x=.ref p/\H p=none/\h=cc H p (.tup [.int i,y])/\∀s,gQ K H a s->s[i]? = some y,fun i H=>∃s,gQ K H a s/\s.length≤i⟩
theorem wH {P:Program}{w:World}{K:FG}{es:Ab}{n:Nat} (a e t:Addr) (C:e≠t):Turn P w K (.Tuple es n J) (B2 K a) [e,t] e (fun i h=>(∃l,IsEnum h e t i l)/\h.IsListIter t a i) where
 mem:=by simp
 obj:=fun i h st b p=>by
  obtain⟨⟨l,A⟩,⟨o,ho,c,d⟩⟩:=st;have:b=e\/b=t:=by simpa using p
  rcases this with rfl | rfl
  .exact⟨_,A,fun v z=>by have z':Data.fields _=Data.cell v:=z;cases z'⟩
  .exact⟨o,ho,fun v z=>by rw [d] at z;cases z⟩
 keep:=fun i h h' st k=>by obtain⟨⟨l,A⟩,y⟩:=st;exact⟨⟨l,k e (by simp) _ A⟩,y.at fun o q=>k t (by simp) o q⟩
 item:=by
  intro X hP hw Z f i B s N H E I R st hg;subst hP hw Z;obtain⟨xs,x,T,hx⟩:=hg;obtain⟨its,rv,pl,hz⟩:=I.list T;obtain⟨u,hu,ru⟩:=rv.get hx;obtain⟨⟨l,A⟩,y⟩:=st;obtain⟨f0,f1,f2,f3,f4,f5⟩:=R e (by simp);obtain⟨M,O,g2,V,W,Y⟩:=R t (by simp);refine wpAny_pyNext_enum_item A y pl.isList (x:=u) (by simpa using hu) C fun h1 ho1 G ht1 hz1 hk1=>?_
  refine⟨_,rfl,wpAny_letOwnedTupleGo_enum (s:={ s with heap:=h1,toks:=s.toks+1 }) ho1 fun Q he2 F=>?_⟩;replace F:Heap.SameBut e h1 Q:=F;have D:e < s.heap.objs.size:=Heap.lt_size A;have S:∀b o,b≠e->b≠t->s.heap.get? b=some o->Q.get? b=some o:=fun b o b1 b2 q=>(F.2 b b1).trans (hk1 b o b1 b2 q);have L:Q.get? s.heap.objs.size=some { cls:=.type "tuple",data:=.seq #[.int i s.toks,u] }:=(F.2 _ (Nat.ne_of_gt D)).trans ht1;have j:H s.heap.objs.size=none:=I.hok.fresh (Nat.le_refl _);have U:∀{b:Addr}{o:HO},H b=some o->b≠e/\b≠t:=fun {b o} q=>⟨fun z=>(by rw [z,f0] at q;cases q),fun z=>(by rw [z,M] at q;cases q)⟩;have g:∀b,b ∉ [e,t]->b≠e/\b≠t:=fun b p=>⟨fun z=>p (by simp [z]),fun z=>p (by simp [z])⟩;have I':Inv X B N (cc H s.heap.objs.size (.tup [.int i,x])) { s with heap:=Q,gens:=s.gens,drawn:=s.drawn,toks:=s.toks+1 }:=by
   refine I.step (ch:=[e,t]) (fun b p=>?_) (fun b o _ _ f q _=>S b o (g b f).1 (g b f).2 q) (fun b o _ _ f q _=>⟨o.slots,S b o (g b f).1 (g b f).2 q⟩) (fun b o _ q n=>?_) (fun b o f q=>⟨o,S b o (g b f).1 (g b f).2 q⟩)
    (fun b ys q=>?_) (fun b o ys q=>?_) (fun b ps q=>⟨#[],?_⟩) (fun m hm=>?_) (fun b u' q=>?_) I.bare
   .have:b=e\/b=t:=by simpa using p
    rcases this with rfl | rfl
    .exact⟨f3,f1,f4,f5⟩
    .exact⟨V,O,W,Y⟩
   .rw [am (bo (Heap.lt_size q))];exact n
   .rw [am (be q j)];exact q
   .rw [am (be q j)];exact q
   .rw [am (be q j),q];simp
   .obtain⟨o,es,ep,ho,r⟩:=hm;exact⟨o,es,ep,S _ o (Ne.symm f1) (Ne.symm O) ho,r⟩
   .by_cases p:b=s.heap.objs.size
    .subst p;rw [aE] at q;cases q;exact⟨by show 2≤sizeLine;decide,[.int i s.toks,u],.cons ⟨_,rfl⟩ (.cons ru .nil),⟨_,L,⟨rfl,_,rfl⟩,rfl⟩⟩
    .rw [am p] at q;refine (I.hok b u' q).stay (fun c v f z=>S c v ?_ ?_ z) (fun c z=>by rw [am (be z j)];exact z) fun c ys z=>by rw [am (be z j)];exact z
     .rcases f with rfl | f
      .exact (U q).1
      .exact (U f).1
     .rcases f with rfl | f
      .exact (U q).2
      .exact (U f).2
  refine⟨.ref s.heap.objs.size,_,I',rfl,⟨s.heap.objs.size,x,rfl,j,rfl,fun ys hy=>by rw [I.list_inj hy T];exact hx⟩,⟨⟨u,by simpa using he2⟩,G.at fun o q=>(F.2 t (Ne.symm C)).trans q⟩,fun b p=>?_⟩;have hb':b=e\/b=t:=by simpa using p
  obtain⟨oi,hoi,_⟩:=id y;rcases hb' with rfl | rfl
  .rw [am (bo D)];exact f0
  .rw [am (bo (Heap.lt_size hoi))];exact M
 done:=by intro X hP hw Z f i B s N H E I R st hg;subst hP hw Z;obtain⟨xs,T,hx⟩:=hg;obtain⟨its,rv,pl,hz⟩:=I.list T;obtain⟨⟨l,A⟩,y⟩:=st;obtain⟨M,O,g2,V,W,Y⟩:=R t (by simp);have hl:=rv.length;exact wpAny_pyNext_enum_end (I.ok.hd f) A y pl.isList (by simp;lia) fun h' eb=>⟨rfl,I.turned (t':=s.toks) (fun b o p e=>eb b o p e) M O V W Y⟩
 self:=fun _ _ _ _ _ st h=>by obtain⟨⟨l,A⟩,_⟩:=st;exact wpAny_pyIter_enum A h
noncomputable def aR (k:Int):List P->List P
 | []=>[]
 | x::r=>.tup [.int k,x]::aR (k+1) r
theorem jG:∀{O:List P}{k:Int}{i:Nat}{v:P},(aR k O)[i]? = some v->∃x,O[i]? = some x/\v=.tup [.int (k+i),x]
 | [],_,_,_,h=>by simp [aR] at h
 | x::r,k,0,v,h=>⟨x,rfl,by simpa [aR] using h.symm⟩
 | x::r,k,i+1,v,h=>by obtain⟨y,a,e⟩:=jG (O:=r) (k:=k+1) (i:=i) (by simpa [aR] using h);refine⟨y,by simpa using a,?_⟩;rw [e];congr 3;lia
theorem cf:∀(O:List P) (k:Int),(aR k O).length=O.length
 | [],_=>rfl
 | _::r,k=>by rw [aR,bc,bc,cf r]
noncomputable def J0 (a:EV):fS:=fun L S=>aF (a L S) fun v h=>match v with
 | .lst x=>some (aR 0 x,h)
 | .ro x=>some (aR 0 x,h)
 | _=>none
theorem zp {K:FG}{F:Aa}{m:List Addr}{H:Hp}{a:Addr}{O:List P}{s:List V} (t:∀h k n,Stp F m H h k n->gQ K n a s) (r:ci K F H O s):B3 K (B2 K a) (aR 0 O) F m H:=by
 intro h k n st;have q:=t h k n st;have l:=r.length;refine⟨fun i v e=>?_,⟨s,q,by rw [cf,l];exact Nat.le_refl _⟩⟩;obtain⟨d,c,rfl⟩:=jG e;obtain⟨x,f,p⟩:=r.get c;refine⟨⟨s,x,q,f⟩,fun z u y=>?_⟩;obtain⟨g,y,rfl,b,rfl,w⟩:=y;have:y=x:=by have:=w s q;rw [f] at this;cases this;rfl
 subst this;refine⟨h,bU b,RP.newTup b ⟨_,_,rfl,?_,_,_,rfl,RP.mono st p,rfl⟩⟩;show V.int (i:Int)=V.int (0+(i:Int));rw [c8]
theorem iE {es:Ab}{n:Nat}{a:Expr}{C:EV}{p t:Pos} (hg:Gl X "enumerate") (hm:X.mg "enumerate"=none) (ha:PE X a (tV X.K C)) (G:starEach [a] X.env=[(false,eval a X.env)]):PI X (.Tuple es n J) (.Call (.Name "enumerate" p) [a] [] t) (tI X.K (J0 C)):=by
 intro B s N H R I ⟨F,m,L,S,O,S',r,l,q,k⟩;obtain⟨v,A,Y,q⟩:=ah q;have Z:PA X [a] (nh X.K (aH C aN)):=An ha BZ (by rw [G];rfl);refine Call_ (jo I hg hm boot_enumerate (k4 (cK (Z t B s N H (fun c x=>∃f d,Stp F m H f d x/\Rel X.K f x d A/\ci X.K f x [v] c) I ⟨F,m,L,S,[v],A,r,l,?_,fun c f d x h j K=>⟨f,d,h,j,K⟩⟩) fun us h ⟨c,x,w,Q,f,d,st,j,K⟩=>?_) (by rw [G];rfl) rfl))
 .simp only [aH,aN,Y,aw]
 obtain⟨x1,rfl,M⟩:=qt K;obtain⟨u,rfl,ru⟩:=vals1 Q;have D:∀{a:Addr}{c:List V},x1=.ref a->gQ X.K x a c->R (B2 X.K a) x->wpAny (model X.prog X.w) X.A (call (.type "enumerate") [u]) (fun v h=>wpAny (model X.prog X.w) X.A (pyIter v) (IF X B N (.Tuple es n J) R) X.xe h) X.xe h:=fun {a c} e hq q=>by
  subst e;cases ru;obtain⟨its,Q,pl,hz⟩:=w.list hq;refine call_enumerate_list pl.isList fun h' E o hsz hk=>?_
  refine wpAny_pyIter_enum E ?_;have g:∀b,h.heap.objs.size≤b->x b=none:=fun b y=>w.hok.fresh y;refine⟨h.heap.objs.size+1,[h.heap.objs.size+1,h.heap.objs.size],_,_,x,rfl,w.kept (t':=h.toks) hk,wH a _ _ (Nat.ne_of_gt (Nat.lt_succ_self _)),⟨⟨_,E⟩,o⟩,fun b y=>?_,q⟩;have z:b=h.heap.objs.size+1\/b=h.heap.objs.size:=by simpa using y
  rcases z with rfl | rfl
  .exact w.fpOk (kU _) (g _ (kU _))
  .exact w.fpOk (Nat.le_refl _) (g _ (Nat.le_refl _))
 cases v with
 | lst W=>cases q;obtain⟨a,c,rfl,i,P⟩:=M;exact D rfl i.sq (k _ f d x st j (zp (fun T m2 U s=>(i.kp s.kp).sq) P))
 | ro W=>cases q;obtain⟨a,c,rfl,i,P⟩:=M;exact D rfl i.sq (k _ f d x st j (zp (fun T m2 U s=>(i.kp s.kp).sq) P))
 | _=>cases q
end
open PySem.AutoSeq1 (wpAny_loadPart')
theorem zZ (n:Nat):(fZ n=true)=(n≤1000000):=by unfold fZ;simp
variable {d:Type}{Q:d->Shared->Prop}{s:Shared}
theorem Ik (h:c=false) (k:wpAny M A b Q E s):wpAny M A (if c=true then a else b) Q E s:=by rw [h,if_neg bS];exact k
theorem Lu (h:c=true) (k:wpAny M A a Q E s):wpAny M A (if c=true then a else b) Q E s:=by rw [h,if_pos rfl];exact k
theorem sT (a:Array Value) (n:Nat):∀b:Array Value,((List.replicate n a).foldl (·++·) b).size=b.size+n * a.size:=by
 induction n with
 | zero=>intro b;simp
 | succ n i=>intro b;rw [dq,gC,i,Array.size_append,Nat.succ_mul];lia
theorem AI (l:Addr) (i:Array Value) (n:Nat) (e:Option Addr) (k:Array (OV)) (x:Int) (u:Tok) (c:-1000000 < x/\x < 1000000) (m:(i.isEmpty || x == 1)=true) :
  Meets (Builtin.«tuple.__mul__» ⟨[.ref l,.int x u],[]⟩) (fun _ R s=>s.heap.get? l=some { cls:=.type "tuple",dict:=e,data:=.seq i n,slots:=k }/\R (.ok (.ret (Value.ref l))) s):=
 .of_wp fun I w A R s h=>by
  obtain⟨p,g,d,t,os⟩:=s;obtain⟨a,h⟩:=h;have f:=AutoSeq1.idx_int;have b:=AutoSeq1.sub_tuple_tuple
  wp_walk using j0 a
  refine Ik (by rw [bq (by lia),bq (by lia)];rfl) ?_
  wp_walk using j0 a
  exact⟨_,rfl,h⟩
theorem AH (l:Addr) (i:Array Value) (n:Nat) (c:Option Addr) (q:Array (OV)) (x:Int) (u:Tok) (H:-1000000 < x/\x < 1000000) (f:¬(i.isEmpty || x == 1)=true) (z:i.size * x.toNat≤1000000) :
  Meets (Builtin.«tuple.__mul__» ⟨[.ref l,.int x u],[]⟩) (fun _ R s=>s.heap.get? l=some { cls:=.type "tuple",dict:=c,data:=.seq i n,slots:=q } /\
   R (.ok (.ret (Value.ref s.heap.objs.size))) { s with heap:=s.heap.push { cls:=Value.type "tuple",data:=Data.seq ((List.replicate x.toNat i).foldl (·++·) #[]) } }):=
 .of_wp fun I w A R s h=>by
  obtain⟨S,g,d,K,os⟩:=s;obtain⟨a,h⟩:=h;have y:=AutoSeq1.idx_int;have o:=AutoSeq1.sub_tuple_tuple
  wp_walk using j0 a
  refine Ik (by rw [bq (by lia),bq (by lia)];rfl) ?_
  wp_walk using j0 a
  have k:i.isEmpty=false:=by
   cases e:i.isEmpty with
   | false=>rfl
   | true=>rw [e] at f;simp at f
  by_cases b:x≤0
  .refine Lu (by rw [iq b];rfl) ?_;have m:x.toNat=0:=by lia
   rw [m] at h
   wp_walk using j0 a
   exact⟨_,rfl,h⟩
  .refine Ik (by rw [bq b,k];rfl) ?_;have p:(i.size:Int) * x≤1000000:=by
    have:((i.size * x.toNat:Nat):Int)≤1000000:=by lia
    rw [Int.natCast_mul,Int.toNat_of_nonneg (by lia)] at this;exact this
   have r:¬(i.size:Int) * x > (2 ^ 63-1) / 8:=by lia
   dsimp only;rw [if_neg r];have F:(1000000:Int)≤(sizeLine:Int):=by decide
   refine Ik (show Builtin.Tuple.tupleTooMany _=false from bq (by lia)) ?_;have t:¬(List.foldl (fun v j=>v++j) #[] (List.replicate x.toNat i)).size > sizeLine:=by
    have e:=sT i x.toNat #[];rw [e];have:x.toNat * i.size≤1000000:=by rw [mx];exact z
    have:(1000000:Nat)≤sizeLine:=by decide
    simp only [List.size_toArray,List.length_nil];lia
   wp_walk using j0 a
   exact⟨_,rfl,h⟩
theorem AW (a:Int) (t:Tok) (l:Addr) (i:Array Value) (n:Nat) (x:Option Addr) (e:Array (OV)) :
  Meets (Builtin.«int.__rmul__» ⟨[.int a t,.ref l],[]⟩) (fun _ R s=>s.heap.get? l=some { cls:=.type "tuple",dict:=x,data:=.seq i n,slots:=e }/\R (.ok (.ret Value.notImplemented)) s):=
 .of_wp fun I w A R s h=>by
  obtain⟨p,g,d,f,os⟩:=s;obtain⟨k,h⟩:=h
  wp_walk
  exact⟨_,rfl,h⟩
theorem wZ:fillsNumberSlot (.type "tuple") "mul"=pure false:=
 PySem.fillsNumberSlot_seq (id:="tuple.__mul__") (r:=some (.builtin "tuple.__rmul__")) pT.lookup (by decide +kernel) PySem.F.slot_tuple_rmul.lookup (by decide +kernel)
theorem Dg:seqRepeat? (.type "tuple")=pure (some (.builtin "tuple.__mul__")):=by unfold seqRepeat?;rw [PySem.seqSlot_of (T:="tuple") (name:="__mul__") (id:="tuple.__mul__") pT.lookup (by decide +kernel)];first | rfl | (rw [PySem.seqSlot_of (T:="tuple") (name:="__rmul__") (id:="tuple.__rmul__") PySem.F.slot_tuple_rmul.lookup (by decide +kernel)];rfl)
section
variable {X:Cx}
theorem uM (i:LV) (k:Nat):(List.replicate k i.toArray).foldl (·++·) #[]=(List.replicate k i).flatten.toArray:=by
 have:∀(m:Nat) (b:LV),(List.replicate m i.toArray).foldl (·++·) b.toArray=(b++(List.replicate m i).flatten).toArray:=by
  intro m;induction m with
  | zero=>intro b;simp
  | succ m x=>intro b;rw [dq,gC,List.append_toArray,x,dq,g8,List.append_assoc]
 have h:=this k [];rw [fu] at h;exact h
theorem vd (r:aL u v):∀k:Nat,aL (List.replicate k u).flatten (List.replicate k v).flatten
 | 0=>.nil
 | k+1=>by rw [dq,dq,g8,g8];exact r.append (vd r k)
theorem DW (x:List d) (k:Nat):(List.replicate k x).flatten.length=x.length * k:=by
 induction k with
 | zero=>rfl
 | succ k i=>rw [dq,g8,List.length_append,i,Nat.mul_succ];lia
noncomputable def dh:P->P->Option P
 | .tup s,.int n=>if (fZ (s.length * n.toNat) && decide (n.natAbs < 1000000))=true then some (.tup (List.replicate n.toNat s).flatten) else none
 | x,y=>rk x y
theorem DK:mu X (binaryOp .Mult) dh:=by
 intro B s N H x y v u Q I L M h;obtain⟨F,z,S,d,V,G,J,q,k⟩:=h;have f:rk z S=some d->wpAny (model X.prog X.w) X.A (binaryOp .Mult v u) (EP X B N Q) X.xe s:=fun q=>Gx B s N H x y v u Q I L M ⟨F,z,S,d,V,G,J,q,k⟩
 cases z with
 | tup j=>
  cases S with
  | int n=>
   simp only [dh] at q;split at q
   .rename_i g;rw [Bool.and_eq_true,zZ] at g;have Y:=of_decide_eq_true g.2;cases q;obtain⟨a,D,rfl,O,C⟩:=G;cases (show y=.int n from J);cases L;obtain⟨t,rfl⟩:=M;have K:=C.length;obtain⟨i,r,⟨o,e,c,m,E⟩,Z⟩:=I.tuple O.sq;have l:=r.length;obtain⟨oc,A,ot,os⟩:=o;dsimp only at c E;subst c E;refine wpAny_binaryOp_repeat_ref (T:="tuple") (U:="int") (by decide) ⟨_,e,rfl⟩ (fun W=>typeIs_int W n t) wZ PySem.F.fills_int_mul PySem.F.slot_int_rmul Dg PySem.F.slot_int_index.lookup
     (call_meets PySem.F.slot_int_rmul (typeIs_int s n t) PySem.F.entry_int_rmul (PySem.F.args_int_rmul_2 _ _) (AW n t a i.toArray m A os) ⟨e,rfl,⟨_,e,rfl⟩,?_⟩)
    by_cases p:(i.toArray.isEmpty || n == 1)=true
    .refine call_meets pT ⟨_,e,rfl⟩ PySem.F.entry_tuple_mul (PySem.F.args_tuple_mul_2 _ _) (AI a i.toArray m A os n t (by lia) p) ⟨e,⟨.ref a,H,I,rfl,k _ F H .refl ?_⟩⟩;have R:(List.replicate n.toNat j).flatten=j:=by
      rw [ja] at p;rcases p with p | p
      .have:i=[]:=by simpa using p
       have:j=[]:=iB (by rw [K,l,this];rfl);subst this;simp
      .have:n=1:=by simpa using p
       subst this;simp
     rw [R];exact⟨a,D,rfl,O,C⟩
    .refine call_meets pT ⟨_,e,rfl⟩ PySem.F.entry_tuple_mul (PySem.F.args_tuple_mul_2 _ _) (AH a i.toArray m A os n t (by lia) p (by rw [List.size_toArray,<- l,<- K];exact g.1)) ⟨e,?_⟩;rw [uM];have w:H s.heap.objs.size=none:=I.hok.fresh (Nat.le_refl _);have P:(List.replicate n.toNat D).flatten.length≤sizeLine:=by
      rw [DW,<- K];exact aM g.1 (by decide)
     refine⟨.ref s.heap.objs.size,_,I.laid (t':=s.toks) (o:=.tup (List.replicate n.toNat D).flatten) (fun b ob q=>Heap.get?_push_of_some _ q) (Nat.le_refl _) ⟨P,_,vd r n.toNat,lG.new _ _⟩,rfl,k _ F _ (bU w) (.newTup w (C.rep n.toNat))⟩
   .cases q
  | _=>exact f q
 | _=>exact f q
noncomputable def hU:List P->Option P
 | [.lst x]=>some (.lst x)
 | [.ro x]=>some (.lst x)
 | [.tup x]=>some (.lst x)
 | _=>none
noncomputable def bD:List P->Option P
 | [.lst x]=>some (.tup x)
 | [.ro x]=>some (.tup x)
 | [.tup x]=>some (.tup x)
 | _=>none
theorem z_:c6 X (.type "list") (rC X.K hU):=by
  intro B s N H m u Q I r h;obtain⟨F,b,d,c,f,q,k⟩:=h;unfold hU at q;split at q;all_goals first
    | (cases q;done)
    | (cases q
       obtain⟨x,rfl,p⟩:=qt f;obtain⟨a,y,rfl,t,n⟩:=p;first
         | exact kL B s N H _ u Q I r ⟨a,y,rfl,.inl t.sq,fun l e=>k _ _ _ (cq e) (.newLst e n)⟩
         | exact kL B s N H _ u Q I r ⟨a,y,rfl,.inr t.sq,fun l e=>k _ _ _ (cq e) (.newLst e n)⟩)
theorem xN:c6 X (.type "tuple") (rC X.K bD):=by
  intro B s N H m u Q I r h;obtain⟨F,b,d,c,f,q,k⟩:=h;unfold bD at q;split at q;all_goals first
    | (cases q;done)
    | (cases q
       obtain⟨x,rfl,p⟩:=qt f;obtain⟨a,y,rfl,t,n⟩:=p;first
         | exact jR B s N H _ u Q I r ⟨a,y,rfl,.inl ⟨t.sq,fun l e=>k _ F _ (bU e) (.newTup e n)⟩⟩
         | exact jR B s N H _ u Q I r ⟨a,y,rfl,.inr ⟨t.sq,k _ F H .refl ⟨a,y,rfl,t,n⟩⟩⟩)
noncomputable def lZ:List P->Option P
 | [.int i]=>some (.int (if i < 0 then -i else i))
 | _=>none
theorem BV:c6 X (.builtin "abs") (rC X.K lZ):=by
 intro B s N H n u Q I r h;obtain⟨F,e,d,f,a,q,k⟩:=h;unfold lZ at q;split at q
 .cases q;obtain⟨x,rfl,p⟩:=qt a;exact z4 B s N H _ u Q I r ⟨_,by rw [show x=_ from p],k _ F H .refl rfl⟩
 .cases q
variable {e:Expr}{es:Ab}{fs:fS}{p J:Pos}
theorem CI (g:Gl X "list") (m:X.mg "list"=none) (a:PA X (e::es) (nh X.K fs)) (x:starEach (e::es) X.env=(false,eval e X.env)::starEach es X.env) (h:(backTo J (starEach es X.env)).any (·.1)=false) :
  PE X (.Call (.Name "list" p) (e::es) [] J) (tV X.K (af hU fs)):=ue z_ g m tY a (by decide) (by decide) x h
theorem Aw (g:Gl X "tuple") (m:X.mg "tuple"=none) (a:PA X (e::es) (nh X.K fs)) (x:starEach (e::es) X.env=(false,eval e X.env)::starEach es X.env) (h:(backTo J (starEach es X.env)).any (·.1)=false) :
  PE X (.Call (.Name "tuple" p) (e::es) [] J) (tV X.K (af bD fs)):=ue xN g m PyProof.Rows.boot_tuple a (by decide) (by decide) x h
theorem Fp (g:Gl X "abs") (m:X.mg "abs"=none) (a:PA X (e::es) (nh X.K fs)) (x:starEach (e::es) X.env=(false,eval e X.env)::starEach es X.env) (h:(backTo J (starEach es X.env)).any (·.1)=false) :
  PE X (.Call (.Name "abs" p) (e::es) [] J) (tV X.K (af lZ fs)):=x6 BV g m PyProof.Rows.boot_abs a (by decide) (by decide) x h
noncomputable def dI (r:EE) (a:EV):EE:=fun L S=>aF (r L S) fun d h=>match c_ d h with
 | none=>none
 | some _=>aF (a L h) fun x e=>match c_ d e,x with
  | some (i,s),.lst y=>if fZ (s.length+y.length)=true then some (.p .non,e.set i (.lst (s++y.map .p))) else none
  | _,_=>none
end
section
variable {X:Cx}{o e:Expr}{T z:EE}{C:EV}{j t J:Pos}
theorem AA (ho:PE X o (tE X.K T)) (he:PE X e (tV X.K C)) (E:starEach [e] X.env=[(false,eval e X.env)])
  (n:attributeBase o "extend" X.env (eval o X.env)=eval o X.env) (f:(j.endLine == t.line)=true):PE X (.Call (.Attribute o "extend" j) [e] [] t) (tE X.K (dI T C)):=
 (Cd t_ PySem.F.slot_list_extend PySem.F.type_list_extend w1 ho (eW he g_ (by rw [E];rfl)) n (by rw [E];rfl) f (by rw [E];rfl) rfl).imp' fun N H Q hz=>by
  obtain⟨F,m,L,S,d,S',r,l,q,k⟩:=hz;obtain⟨x,B,e1,q⟩:=ah q;refine⟨F,m,L,S,x,B,r,l,e1,fun v Y m1 H1 V R O=>?_⟩;cases D:c_ x B with
  | none=>rw [D] at q;cases q
  | some z=>
   obtain⟨i,ds⟩:=z;rw [D] at q;dsimp only at q;obtain⟨rfl,es⟩:=kA D;obtain⟨a,rfl,hm⟩:=id O;obtain⟨xs,hH,rs⟩:=R.obj i a _ hm es;refine⟨.inl ⟨rfl,xs,gQ.of hH⟩,?_⟩;obtain⟨y,J,e2,q⟩:=ah q;refine⟨Y,m1,L,B,y,J,R,l.mono V,e2,fun u P G A W I p2=>?_⟩;cases h:c_ (.ref i) J with
   | none=>rw [h] at q;cases q
   | some z=>
    obtain⟨i2,Z⟩:=z;rw [h] at q;obtain⟨e3,s⟩:=kA h;cases e3;cases y with
    | lst ys=>
     dsimp only at q;split at q
     .rename_i hf;cases q;obtain⟨a2,e4,c⟩:=RD.mono W O;cases e4;obtain⟨g,p,w⟩:=I.obj i a _ c s;obtain⟨b,K,rfl,tb,U⟩:=p2;have M:∀K,A a≠some (.tup K):=fun K z=>by rw [p] at z;cases z
      have st:Stp P G A P G (cc A a (.lst (g++K))):=fG I c s trivial M;refine⟨a,b,g,K,rfl,rfl,p,tb.2,by rw [<- w.length,<- U.length];exact gn hf,?_⟩;exact k .non P G _ (V.trans (W.trans st)) (I.set c s trivial M ⟨_,aE,dj.mono st (w.append (dj.ofP U))⟩) rfl
     .cases q
    | _=>cases q
noncomputable abbrev oh:=Lc->aD->Option (List D×aD)
inductive tDsI (K:FG) (f:oh) (σ:L2.St) (H:Hp) (Q:List V->Hp->Prop):Prop
 | mk (F:Aa) (m:List Addr) (L:Lc) (S:aD) (ds:List D) (S':aD) (h0_:Rel K F H m S) (h1_:RL K F H m σ L) (h2_:f L S=some (ds,S')) (h3_:∀xs F' m' H',Stp F m H F' m' H'->Rel K F' H' m' S'->dj K F' H' m' ds xs->Q xs H'):tDsI K f σ H Q
noncomputable def wL (K:FG) (f:oh):TA:=fun N H Q=>tDsI K f N H Q
noncomputable def ba:oh:=fun _ S=>some ([],S)
noncomputable def ae (a:EE) (r:oh):oh:=fun L S=>aF (a L S) fun x h=>aF (r L h) fun s e=>some (x::s,e)
variable {es:Ab}{fs:oh}
theorem Hn:PA X [] (wL X.K ba):=g_.imp' fun N H Q h=>by obtain⟨F,m,L,S,d,x,r,l,q,k⟩:=h;cases q;exact k [] F m H .refl r rfl
theorem Er (w:PE X e (tE X.K z)) (u:PA X es (wL X.K fs)) (g:starEach (e::es) X.env=(false,eval e X.env)::starEach es X.env):PA X (e::es) (wL X.K (ae z fs)):=
 (eW w u g).imp' fun N H Q i=>by obtain⟨F,m,L,S,d,c,r,l,q,k⟩:=i;obtain⟨x,h,t,q⟩:=ah q;obtain⟨B,D,p,q⟩:=ah q;cases q;refine⟨F,m,L,S,x,h,r,l,t,fun v n j C s P o=>?_⟩;refine⟨n,j,L,h,B,c,P,l.mono s,p,fun O f y b a A K=>?_⟩;exact k (v::O) f y b (s.trans a) A ⟨v,O,rfl,RD.mono a o,K⟩
noncomputable abbrev GF:=List D->aD->Option (D×aD)
inductive spRI (K:FG) (g:GF) (vs:List V) (H:Hp) (Q:VK):Prop
 | mk (F:Aa) (m:List Addr) (ds:List D) (S:aD) (d:D) (S':aD) (h0_:Rel K F H m S) (h1_:dj K F H m ds vs) (h2_:g ds S=some (d,S')) (h3_:∀v F' m' H',Stp F m H F' m' H'->Rel K F' H' m' S'->RD K F' H' m' d v->Q v H'):spRI K g vs H Q
noncomputable def ol (K:FG) (g:GF):Sp:=fun O H Q _=>spRI K g O H Q
noncomputable def fX (g:GF) (a:oh):EE:=fun L S=>aF (a L S) fun d h=>g d h
theorem CS (G:FnOk X.prog X.w X.K X.mg X.base pI u f fd ps (ol X.K a0)) (A:Room u X.A) (o:Gl X x) (P:X.mg x=some (.ref f)) (K:PySem.W.keepIn X.K (.ref f)=true) (y:Binds X.K fd ps [])
  (j:PA X (e::es) (wL X.K fs)) (h:(x == ("__debug__":Str))=false) (z:starEach (e::es) X.env=(false,eval e X.env)::starEach es X.env) (a:(backTo J (starEach es X.env)).any (·.1)=false) :
  PE X (.Call (.Name x p) (e::es) [] J) (tE X.K (fX a0 fs)):=
 (qw G A o P K y .nil o6 j h z a).imp' fun N H Q B=>by obtain⟨F,m,L,S,d,g,r,l,q,u⟩:=B;obtain⟨k,n,i,q⟩:=ah q;refine⟨F,m,L,S,k,n,r,l,i,fun R b C t s I p=>?_⟩;show ol X.K a0 (R++[]) t Q E0;rw [List.append_nil];exact⟨b,C,k,n,d,g,I,p,q,fun v c D w O M E=>u v c D w (s.trans O) M E⟩
noncomputable def w8 (n:Nat):D->Bool
 | .p _=>true
 | .ref i=>decide (i < n)
noncomputable def DV (n:Nat):SO->Bool
 | .lst d=>d.all (w8 n)
 | .dct _ d=>d.all (w8 n)
 | .fz _=>true
 | .ins _ _ d=>d.all (w8 n)
 | .exc _=>true
 | .dtt _ d=>d.all (w8 n)
noncomputable def trunc (n:Nat) (S:aD):aD:=if (S.take n).all (DV n)=true then S.take n else S
noncomputable def cD (g:GF) (a:oh):EV:=fun L S=>aF (a L S) fun s h=>aF (g s h) fun d x=>aF (toP 9 d x) fun v e=>some (v,trunc h.length e)
end
section
variable {K:FG}{F:Aa}{H:Hp}{m:List Addr}{S:aD}
theorem RD.low (h:RD K F H m r v) (l:w8 n r=true):RD K F H (m.take n) r v:=by
 cases r with
 | p w=>exact h
 | ref i=>obtain⟨a,e,x⟩:=h;exact⟨a,e,by rw [iz (of_decide_eq_true l)];exact x⟩
theorem dj.low:∀{s:List D}{a:List V},dj K F H m s a->s.all (w8 n)=true->dj K F H (m.take n) s a
 | [],_,h,_=>h
 | d::s,_,h,l=>by obtain⟨x,r,e,k,f⟩:=h;rw [dD,Bool.and_eq_true] at l;exact⟨x,r,e,k.low l.1,dj.low f l.2⟩
theorem Rel.trunc (r:Rel K F H m S) (y:n≤m.length) (h:(S.take n).all (DV n)=true):Rel K F H (m.take n) (S.take n) where
 len:=by rw [iu,iu,r.len]
 nd:=r.nd.sublist (List.take_sublist _ _)
 obj:=fun i a o x t=>by
  have q:i < n:=by have:=(List.getElem?_eq_some_iff.mp x).1;rw [iu] at this;lia
  rw [iz q] at x;have lo:=bn.mp h o (bF t);rw [iz q] at t;have p:=r.obj i a o x t;cases o with
  | lst d=>obtain⟨l,s,b⟩:=p;exact⟨l,s,b.low lo⟩
  | dct u d=>obtain⟨k,s,e,b⟩:=p;exact⟨k,s,e,b.low lo⟩
  | fz v=>exact p
  | ins c u d=>obtain⟨C,g,k,j,s,e,b⟩:=p;exact⟨C,g,k,j,s,e,b.low lo⟩
  | exc c=>exact p
  | dtt u d=>obtain⟨k,s,e,b⟩:=p;exact⟨k,s,e,b.low lo⟩
 sep:=fun i a o x t w f=>by
  have q:i < n:=by have:=(List.getElem?_eq_some_iff.mp x).1;rw [iu] at this;lia
  rw [iz q] at x t;exact r.sep i a o x t w f
 trk:=fun a h=>r.trk a (mZ h)
 ft:=r.ft
theorem Stp.trunc (s:Stp F m H v r u):Stp F m H v (r.take m.length) u:=by
 obtain⟨n,e⟩:=s.pre;have x:r.take m.length=m:=by rw [e];simp
 rw [x];exact⟨⟨[],by simp⟩,s.oth,s.frz,s.frk,s.tup,s.trk,s.nf,fun _ h=>.inl h⟩
end
section
variable {X:Cx}{e:Expr}{es:Ab}{fs:oh}{J:Pos}
theorem Ay (G:FnOk X.prog X.w X.K X.mg X.base pI u f fd ps (ol X.K a0)) (Z:Room u X.A) (V:Gl X x) (Y:X.mg x=some (.ref f)) (W:PySem.W.keepIn X.K (.ref f)=true) (T:Binds X.K fd ps [])
  (R:PA X (e::es) (wL X.K fs)) (b:(x == ("__debug__":Str))=false) (U:starEach (e::es) X.env=(false,eval e X.env)::starEach es X.env) (w:(backTo J (starEach es X.env)).any (·.1)=false) :
  PE X (.Call (.Name x p) (e::es) [] J) (tV X.K (cD a0 fs)):=
 (qw G Z V Y W T .nil o6 R b U w).imp' fun N H Q hz=>by
  obtain⟨F,m,L,S,d,S',r,l,q,u⟩:=hz;obtain⟨z,h,I,q⟩:=ah q;obtain⟨E,D,M,q⟩:=ah q;obtain⟨v1,a,O,q⟩:=ah q;cases q;refine⟨F,m,L,S,z,h,r,l,I,fun xs B g C A K p1=>?_⟩;show ol X.K a0 (xs++[]) C Q E0;rw [List.append_nil];refine⟨B,g,z,h,E,D,K,p1,M,fun v F2 i y s2 r2 p2=>?_⟩;obtain⟨j,s3,P,l3,o⟩:=ng 9 O r2 p2;have st:=s2.trans s3;have s:=K.len;by_cases c:(a.take h.length).all (DV h.length)=true
  .have t:Ev.trunc h.length a=a.take h.length:=if_pos c;rw [t] at u;have k:g.length≤i.length:=by
    obtain⟨nn,e⟩:=st.pre;rw [e,List.length_append];lia
   have rt:=P.trunc (n:=h.length) (by rw [<- s];exact k) c;refine u v j (i.take g.length) y (A.trans st.trunc) ?_ o;rw [s];exact rt
  .have t:Ev.trunc h.length a=a:=if_neg c;rw [t] at u;exact u v j i y (A.trans st) P o
end
section
variable {X:Cx}{a b c e o i g:Expr}{C U q k Y:EV}{T z:EE}{J G:Pos}
noncomputable def og (i:Expr):Prop:=∀(o:Expr) (J:Pos) (e:Env) (v:Value),assign (.Subscript o i J) e v=(do
 let h <- holding [v] (eval o e)
 let x <- holding [v,h] (eval i e)
 standAt J
 holding [v,h,x] (setItem h x v)
 release [v,h,x] [])
noncomputable def o1 (o:EE) (k v:EV):ES:=fun L S=>aF (v L S) fun y x=>aF (o L x) fun d a=>aF (k L a) fun z h=>match c_ d h,z with
 | some (i,s),.int n=>match xc s.length n with
  | some j=>some (.nx,L,h.set i (.lst (s.set j (.p y))))
  | none=>none
 | _,_=>none
theorem dj.setAt {K:FG}{F:Aa}{H:Hp}{m:List Addr}{d:D}{v:V} (h:RD K F H m d v):∀{s:List D}{e:List V} (j:Nat),dj K F H m s e->dj K F H m (s.set j d) (e.set j v)
 | [],_,_,r=>by cases (show _=([]:List V) from r);exact rfl
 | _::_,_,0,r=>by obtain⟨x,a,rfl,p,r⟩:=r;exact⟨v,a,rfl,h,r⟩
 | _::_,_,j+1,r=>by obtain⟨x,a,rfl,p,r⟩:=r;exact⟨x,_,rfl,p,dj.setAt h j r⟩
theorem Fd (ho:PE X o (tE X.K T)) (hi:PE X i (tV X.K k)) (hv:PE X g (tV X.K Y)) (hs:swapsWith g (some (.Subscript o i G)) J.line X.env=pure false) (hw:swappedStores [.Subscript o i G] g X.env=pure none) (P:og i) :
  PS X (.Assign [.Subscript o i G] g J) (ku X.K (o1 T k Y)):=(yI hv (Du ho hi yq (P o G X.env)) hs hw).imp' fun D N H hz=>by
 obtain⟨F,m,L,S,fl,L',S',r,l,q,h⟩:=hz;obtain⟨y,I,e1,q⟩:=ah q;obtain⟨d,M,e2,q⟩:=ah q;obtain⟨z,O,e3,q⟩:=ah q;refine⟨F,m,L,S,y,I,r,l,e1,fun v E R H1 b r1 p1=>?_⟩;refine⟨E,R,L,I,d,M,r1,l.mono b,e2,fun x F2 m2 H2 c r2 p2=>?_⟩;refine⟨F2,m2,L,M,z,O,r2,(l.mono b).mono c,e3,fun w e f s p C p3=>?_⟩;cases K:c_ d O with
 | none=>rw [K] at q;cases q
 | some t=>
  obtain⟨j,ds⟩:=t;rw [K] at q;cases z with
  | int n=>
   dsimp only at q;cases u:xc ds.length n with
   | none=>rw [u] at q;cases q
   | some B=>
    rw [u] at q;cases q;obtain⟨rfl,es⟩:=kA K;obtain⟨a,rfl,A⟩:=RD.mono p p2;obtain⟨W,Q,V⟩:=C.obj j a _ A es;have pv:RD X.K e s f (.p y) v:=RD.mono p (RD.mono c (show RD X.K E H1 R (.p y) v from p1));cases (show w=.int n from p3);have U:∀Z,s a≠some (.tup Z):=fun Z z=>by rw [Q] at z;cases z
    have st:Stp e f s e f (cc s a (.lst (W.set B v))):=fG C A es trivial U;refine⟨a,W,n,B,rfl,rfl,Q,by rw [<- V.length];exact u,?_⟩;exact h N e f _ (b.trans (c.trans (p.trans st))) (C.set A es trivial U ⟨_,aE,dj.mono st (dj.setAt pv B V)⟩) (((l.mono b).mono c).mono (p.trans st))
  | _=>cases q
noncomputable def fo (o:EE) (k v:EV):ES:=fun L S=>match oo o k v L S with
 | some r=>some r
 | none=>o1 o k v L S
theorem Fe (u:X.A.units+1 < cLine) (p:PE X o (tE X.K T)) (t:PE X i (tV X.K k)) (d:PE X g (tV X.K Y)) (v:swapsWith g (some (.Subscript o i G)) J.line X.env=pure false) (hw:swappedStores [.Subscript o i G] g X.env=pure none) (b:og i) :
  PS X (.Assign [.Subscript o i G] g J) (ku X.K (fo T k Y)):=fun B s N H D I h=>by
 obtain⟨F,m,L,S,f,a,e,r,l,q,x⟩:=h;cases n:oo T k Y L S with
 | some z=>
  have c:some z=some (f,a,e):=by have:=q;unfold fo at this;rw [n] at this;exact this
  cases c;exact IM u p t d v B s N H D I ⟨F,m,L,S,f,a,e,r,l,n,x⟩
 | none=>
  have c:o1 T k Y L S=some (f,a,e):=by have:=q;unfold fo at this;rw [n] at this;exact this
  exact Fd p t d v hw b B s N H D I ⟨F,m,L,S,f,a,e,r,l,c,x⟩
noncomputable def k8 (g n:P->P->Option P) (a b c:EV):EV:=fun L S=>aF (a L S) fun x e=>aF (b L e) fun y h=>match g x y with
 | some (.bl true)=>aF (c L h) fun z s=>(n y z).map fun v=>(v,s)
 | some (.bl false)=>some (.bl false,h)
 | _=>none
theorem tH {g b:P->P->Option P}{N:L2.St}{H:Hp}{Q:VK} (h:tV X.K (k8 g b C U q) N H Q):uk (rP X.K g) (rP X.K b) (tV X.K C) (tV X.K U) (tV X.K q) N H Q:=by
 obtain⟨F,m,L,S,d,S',r,l,a,k⟩:=h;obtain⟨x,j,W,a⟩:=ah a;obtain⟨y,o,Y,a⟩:=ah a;refine⟨F,m,L,S,x,j,r,l,W,fun v J m1 H1 E r1 p1=>?_⟩;refine⟨J,m1,L,j,y,o,r1,l.mono E,Y,fun u M p H2 G A K=>?_⟩;cases f:g x y with
 | none=>rw [f] at a;cases a
 | some z=>
  rw [f] at a;cases z with
  | bl t=>
   refine⟨M,x,y,_,A.ft,RP.mono G p1,K,f,fun w n i c p3=>⟨t,p3,?_⟩⟩;have rT:Stp F m H n p i:=E.trans (G.trans c.stp);have B:=A.grow c;cases t with
   | false=>rw [if_neg bS];cases a;exact k _ n p i rT B rfl
   | true=>
    rw [if_pos rfl];dsimp only at a;obtain⟨z,V,Z,a⟩:=ah a;refine⟨n,p,L,o,z,V,B,l.mono rT,Z,fun w' O m4 H4 I D p4=>?_⟩;cases e:b y z with
    | none=>rw [e] at a;cases a
    | some z2=>rw [e] at a;cases a;exact⟨O,y,z,_,D.ft,RP.mono I (RP.grow c K),p4,e,fun w2 R T s p5=>k w2 R m4 T (rT.trans (I.trans s.stp)) (D.grow s) p5⟩
  | _=>cases a
theorem CQ (n:mu X (compareOp u) r) (o:mu X (compareOp v) L) (x:PE X a (tV X.K C)) (e:PE X b (tV X.K U)) (s:PE X c (tV X.K q)) (m:lastMarks [u,v] [b,c]=false) :
  PE X (.Compare a [u,v] [b,c] J) (tV X.K (k8 r L C U q)):=(yY n o x e s m).imp' fun _ _ _ h=>tH h
theorem CH (y:mu X (compareOp op) u) (o:mu X (compareOp op') g') (w:PE X a (tV X.K C)) (g:PE X b (tV X.K U)) (i:PE X c (tV X.K q)) (j:lastMarks [op,op'] [b,c]=false) :
  PT X (.Compare a [op,op'] [b,c] J) (tQ X.K (bV (k8 u g' C U q))):=(yF y o w g i j).imp' fun N H Q h=>by
 refine tH ?_;obtain⟨F,m,L,S,d,P,r,l,e,k⟩:=h;obtain⟨x,A,t,e⟩:=ah e;cases x with
 | bl b=>cases e;exact⟨F,m,L,S,_,_,r,l,t,fun v n z f s K p=>⟨_,p,k n z f s K⟩⟩
 | _=>cases e
noncomputable def ui:P->Option Bool
 | .non=>some false
 | .bl b=>some b
 | .int i=>some (i != 0)
 | .str x=>if fZ x.length=true then some ((x.length:Int) != 0) else none
 | .tup s=>some (!s.isEmpty)
 | .lst s=>some (!s.isEmpty)
 | .ro s=>some (!s.isEmpty)
 | .dct k _=>some (!k.isEmpty)
noncomputable def ya:D->aD->Option Bool
 | .p v,_=>ui v
 | .ref i,S=>match S[i]? with
  | some (.lst d)=>some (!d.isEmpty)
  | some (.dct k _)=>some (!k.isEmpty)
  | some (.fz v)=>ui v
  | _=>none
noncomputable def bT (f:EE):EB:=fun L S=>aF (f L S) fun d h=>(ya d h).map fun b=>(b,h)
theorem gU {x:List d}{y:List l} (h:x.length=y.length):x.isEmpty=y.isEmpty:=by cases x <;> cases y <;> first | rfl | simp at h
theorem vm (p:RP X.K F H w v) (h:ui w=some r):EJ X.K v H r:=by
 cases w with
 | non=>cases (show v=.non from p);cases h;rfl
 | bl b=>cases (show v=.bl b from p);cases h;rfl
 | int b=>cases (show v=.int b from p);cases h;rfl
 | str x=>
  cases (show v=.str x from p);simp only [ui] at h;split at h
  .rename_i c;cases h;exact⟨gn c,rfl⟩
  .cases h
 | tup d=>obtain⟨a,s,rfl,t,e⟩:=p;cases h;exact .inr (.inl ⟨s,t.sq,by rw [gU e.length]⟩)
 | lst d=>obtain⟨a,s,rfl,t,e⟩:=p;cases h;exact .inl ⟨s,t.sq,by rw [gU e.length]⟩
 | ro d=>obtain⟨a,s,rfl,t,e⟩:=p;cases h;exact .inl ⟨s,t.sq,by rw [gU e.length]⟩
 | dct m d=>obtain⟨a,k,rfl,_,f,n,e⟩:=p;cases h;exact .inr (.inr ⟨k,f,by rw [<- n];cases k <;> rfl⟩)
theorem yT (h:PE X e (tE X.K z)) (D:∀o,isTrue e X.env o=(do let v <- o;standAt e.pos;holding [v] (truthy v))):PT X e (tQ X.K (bT z)):=
 (yE h D).imp' fun N H Q E=>by
  obtain⟨F,m,L,S,d,M,r,l,q,k⟩:=E;obtain⟨x,P,B,q⟩:=ah q;cases s:ya x P with
  | none=>rw [s] at q;cases q
  | some t=>
   rw [s] at q;cases q;refine⟨F,m,L,S,x,_,r,l,B,fun v y G K I b g=>⟨_,?_,k y G K I b⟩⟩;cases x with
   | p w=>exact vm g s
   | ref j=>
    obtain⟨a,rfl,u⟩:=g;simp only [ya] at s;split at s
    .rename_i A n;cases s;obtain⟨J,c,i⟩:=b.obj j a _ u n;exact .inl ⟨J,gQ.of c,by rw [gU i.length]⟩
    .rename_i O A n;cases s;obtain⟨f,c,C,i⟩:=b.obj j a _ u n;exact .inr (.inr ⟨f,c,by rw [<- C];cases f <;> rfl⟩)
    .rename_i w n;exact vm (b.obj j a _ u n) s
    .cases s
noncomputable def sg (g:i4) (f:EV):ES:=fun L S=>aF (f L S) fun v x=>match g v L with
 | some h=>some (.nx,h,x)
 | none=>none
theorem IK (p:PE X e (tV X.K C)) (d:PG X tg (gT X.K u)) (w:swapsWithSole [tg] e J.line X.env=pure false) (hw:swappedStores [tg] e X.env=pure none) (t:(assignEach [tg] X.env).map (·.2)=[assign tg X.env]) :
  PS X (.Assign [tg] e J) (ku X.K (sg u C)):=(yI p d w hw t).imp' fun D N H z=>by
 obtain⟨F,m,L,S,P,o,K,r,l,q,k⟩:=z;obtain⟨v,b,c,q⟩:=ah q;refine⟨F,m,L,S,v,b,r,l,c,fun x a s f n y j=>?_⟩;cases g:u v L with
 | none=>rw [g] at q;cases q
 | some L2=>rw [g] at q;cases q;exact⟨a,s,L,v,_,l.mono n,j,g,fun h i=>k h a s f n y i⟩
noncomputable def aq:P->P->Option P
 | .tup [],.tup s=>some (.tup s)
 | x,y=>rD x y
theorem EA {M:Program}{w:World}{A:Around}{E:VP}{s:Shared}{t b:Addr}{a:LV}{Q:VP} (n:IsTup s.heap t #[]) (e:IsTup s.heap b a.toArray) (h:Q (.ref b) s):wpAny (model M w) A (binaryOp .Add (.ref t) (.ref b)) Q E s:=by obtain⟨o,g,k,m,l⟩:=id n;obtain⟨p,x,f,r,c⟩:=id e;cases o;cases p;cases k;cases l;cases f;cases c;exact concat_meets ⟨_,g,rfl⟩ ⟨_,x,rfl⟩ noFill_tuple_add seq_tuple_add tZ t6 (ua _ _) (tuple_addW0 t b #[] a.toArray m r _ _ _ _ rfl) ⟨g,x,h⟩
theorem DL:mu X (binaryOp .Add) aq:=by
 intro B s N H x y v u Q I r m h;obtain⟨F,e,n,d,t,c,p,q,k⟩:=h;have o:rD e n=some d->wpAny (model X.prog X.w) X.A (binaryOp .Add v u) (EP X B N Q) X.xe s:=fun q=>GH B s N H x y v u Q I r m ⟨F,e,n,d,t,c,p,q,k⟩
 cases e with
 | tup f=>
  cases n with
  | tup es=>
   cases f with
   | nil=>cases q;obtain⟨a,P,rfl,S,z⟩:=c;obtain⟨b,D,rfl,K,C⟩:=id p;cases (show P=[] from z);cases r;cases m;obtain⟨w,l,g,_⟩:=I.tuple S.sq;obtain⟨i,A,j,_⟩:=I.tuple K.sq;cases l;exact EA g j ⟨.ref b,H,I,rfl,k _ F H .refl p⟩
   | cons _ _=>exact o q
  | _=>cases f <;> exact o q
 | _=>exact o q
noncomputable def u6 (K:FG) (m:SV) (x:Str) (v:P):Prop:=∃u w,m x=some u/\RelV w u/\∀F H,RP K F H v w
theorem Ft (g:Gl X x) (h:u6 X.K X.mg x v) (hd:(x == ("__debug__":Str))=false):PE X (.Name x J) (tV X.K (vC v)):=by obtain⟨u,w,m,r,p⟩:=h;exact xC (Be g m r hd) p
end
section
variable {X:Cx}{a:Expr}{C:EE}{p J:Pos}
noncomputable def xf (T:String):D->aD->Option Bool
 | .p v,_=>some (jJ T v)
 | .ref i,S=>match S[i]? with
  | some (.lst _)=>some (jJ T (.lst []))
  | some (.dct _ _)=>some (jJ T (.dct [] []))
  | some (.fz v)=>some (jJ T v)
  | _=>none
noncomputable def AG (T:String) (f:EE):EV:=fun L S=>aF (f L S) fun d h=>(xf T d h).map fun b=>(.bl b,h)
theorem xM (T:∀K:FG,∀v:P,PySem.W.kitOne K (.type (CZ v)) (.type L)=some (jJ L v)) :
  c6 X (.builtin "isinstance") (fun y H Q=>∃F m S d b x,y=[x,.ty L]/\Rel X.K F H m S/\RD X.K F H m d x/\xf L d S=some b/\Q (.bl b) H):=by
 intro B s N H y U Q I r h;obtain⟨F,m,S,d,b,x,rfl,l,pd,i,q⟩:=h;have plain:∀w:P,RP X.K F H w x->jJ L w=b->wpAny (model X.prog X.w) X.A _ _ _ _:=fun w hw e=>z0 T B s N H [x,.ty L] U Q I r ⟨F,w,x,rfl,hw,by rw [e];exact q⟩
 cases d with
 | p w=>cases i;exact plain w pd rfl
 | ref j=>
  obtain⟨a,rfl,t⟩:=pd;simp only [xf] at i;obtain⟨u,V,rfl,A,g⟩:=vals2 r;cases (show V=Value.type L from g);have f:∀C,EP X B N Q (.bool b) { s with toks:=C }:=fun C=>⟨.bl b,H,I.tok _,rfl,q⟩;split at i
  .rename_i D k;obtain⟨y,c,R⟩:=l.obj j a _ t k;have e:=T X.K (.lst []);rw [show jJ L (.lst [])=b by cases i;rfl] at e;cases A;obtain⟨J,_,O,_⟩:=I.list (gQ.of c);obtain⟨o,n,E,G,_⟩:=O;exact eH mU I.kIn ⟨o,E,G⟩ e (fun z=>nomatch z) f
  .rename_i Y D k;obtain⟨M,c,W,R⟩:=l.obj j a _ t k;have e:=T X.K (.dct [] []);rw [show jJ L (.dct [] [])=b by cases i;rfl] at e;exact gw I A (.dK c) e f
  .rename_i w k;exact plain w (l.obj j a _ t k) (by cases i;rfl)
  .cases i
theorem Fj (T:∀K:FG,∀v:P,PySem.W.kitOne K (.type (CZ v)) (.type u)=some (jJ u v)) (o:Gl X "isinstance") (A:X.mg "isinstance"=none) (h:Gl X tn) (n:X.mg tn=none) (z:bootBuiltins tn=some (.type u)) (y:PE X a (tE X.K C))
  (B:tn≠"__name__") (hd:(tn == ("__debug__":Str))=false) (c:starEach [a,.Name tn p2] X.env=[(false,eval a X.env),(false,eval (.Name tn p2) X.env)]):PE X (.Call (.Name "isinstance" p) [a,.Name tn p2] [] J) (tV X.K (AG u C)):=
 (kz (xM T) o A PyProof.Rows.boot_isinstance (eW y (eW (Bf (v:=.ty u) h n z rfl B hd) g_ rfl) (by rw [c];rfl)) (by decide) (by decide) (by rw [c];rfl) rfl).imp' fun N H Q D=>by
  obtain⟨F,m,L,S,d,G,r,l,q,k⟩:=D;obtain⟨x,i,j,q⟩:=ah q;cases e:xf u x i with
  | none=>rw [e] at q;cases q
  | some b=>rw [e] at q;cases q;exact⟨F,m,L,S,_,_,r,l,j,fun v f t g s w E=>⟨f,t,_,x,b,v,rfl,w,E,e,k _ f t g s w rfl⟩⟩
end
noncomputable def gI (f:Str):LS->List D->Option D
 | k::h,d::s=>if k=f then some d else gI f h s
 | _,_=>none
noncomputable def putK (f:Str):LS->LS
 | []=>[f]
 | k::s=>if k=f then k::s else k::putK f s
noncomputable def nr (f:Str) (y:D):LS->List D->List D
 | [],_=>[y]
 | k::h,d::s=>if k=f then y::s else d::nr f y h s
 | _::_,[]=>[]
noncomputable def i5 (K:FG) (c:Str) (C:Addr):Prop:=PySem.W.nsIn K mainGlobals c=some (some (.ref C))
variable {K:FG}
theorem i5.inj (h:i5 K c r) (x:i5 K c v):r=v:=by have:=h.symm.trans x;cases this;rfl
noncomputable def IJ (K:FG) (A:Str->Str->Bool):Prop:=∀c f,A c f=true->∃C,i5 K c C/\Cls K C/\ki K C f
section
variable {K:FG}{F:Aa}{H:Hp}{m:List Addr}
theorem vM:∀{a:List (Str×V)}{s:List D}{d:D},dj K F H m s (a.map (·.2))->gI f (a.map (·.1)) s=some d->∃v,a.lookup f=some v/\RD K F H m d v
 | [],s,d,_,h=>by cases s <;> cases h
 | (k,x)::r,s,d,q,h=>by
  cases s with
  | nil=>cases h
  | cons w s=>
   obtain⟨y,u,e,t,p⟩:=q;simp only [List.map_cons,ir] at e;obtain⟨rfl,rfl⟩:=e;simp only [List.map_cons,gI] at h;split at h
   .rename_i n;cases h;subst n;exact⟨x,by simp [List.lookup],t⟩
   .rename_i n;obtain⟨v,b,c⟩:=vM p h;exact⟨v,by rw [pK,show (f == k)=false by simpa using fun z=>n z.symm];exact b,c⟩
theorem vL:∀{v:List (Str×V)},(v.map (·.1)).contains f=false->v.lookup f=none
 | [],_=>rfl
 | (k,x)::r,h=>by simp only [List.map_cons,List.contains_cons,Bool.or_eq_false_iff] at h;rw [pK,h.1];exact vL h.2
theorem yD (h:RD K F H m u v):∀{s:List (Str×V)}{d:List D},dj K F H m d (s.map (·.2))->(g9 f v s).map (·.1)=putK f (s.map (·.1))/\dj K F H m (nr f u (s.map (·.1)) d) ((g9 f v s).map (·.2))
 | [],d,n=>⟨rfl,v,[],rfl,h,rfl⟩
 | (k,x)::r,d,n=>by
  cases d with
  | nil=>cases (show _=([]:List V) from n)
  | cons p d=>
   obtain⟨z,q,e,c,a⟩:=n;simp only [List.map_cons,ir] at e;obtain⟨rfl,rfl⟩:=e;by_cases b:k=f
   .simp only [g9,b,iC,List.map_cons,putK,nr];first | exact⟨rfl,v,_,rfl,h,a⟩ | exact⟨trivial,v,_,rfl,h,a⟩
   .obtain⟨i,t⟩:=yD h a;simp only [g9,b,if_false,List.map_cons,putK,nr];exact⟨by rw [i],x,_,rfl,c,t⟩
end
section
variable {X:Cx}{o e g:Expr}{f:Str}{J G j:Pos}{T Y:EE}{A:Str->Str->Bool}{es:Ab}{fs:oh}
noncomputable def dF (A:Str->Str->Bool) (o:EE) (f:Str):EE:=fun L S=>aF (o L S) fun d h=>match d with
 | .ref i=>match h[i]? with
  | some (.ins c k s)=>if A c f=true then (gI f k s).map fun z=>(z,h) else none
  | _=>none
 | _=>none
theorem Jh (B:IJ X.K A) (R:PE X o (tE X.K T)) (G:attributeBase o f X.env (eval o X.env)=eval o X.env):PE X (.Attribute o f J) (tE X.K (dF A T f)):=(DA R G).imp' fun N H Q V=>by
 obtain⟨F,m,L,S,d,S',r,l,q,k⟩:=V;obtain⟨x,u,y,q⟩:=ah q;refine⟨F,m,L,S,x,u,r,l,y,fun v b Y t s1 n Z=>?_⟩;cases x with
 | p w=>cases q
 | ref i=>
  obtain⟨a,rfl,M⟩:=Z;dsimp only at q;split at q
  .rename_i c W g U;split at q
   .rename_i E;cases h:gI f W g with
    | none=>rw [h] at q;cases q
    | some z=>rw [h] at q;cases q;obtain⟨C,j,s,P,D,rfl,rs⟩:=n.obj i a _ M U;obtain⟨C',e,I,O⟩:=B c f E;cases i5.inj P e;obtain⟨v,K,p3⟩:=vM rs h;exact⟨a,C,j,s,v,rfl,D,I,O,K,k v b Y t s1 n p3⟩
   .cases q
  .cases q
noncomputable def kx (A:Str->Str->Bool) (o:EE) (f:Str) (v:EE):ES:=fun L S=>aF (v L S) fun y x=>aF (o L x) fun d h=>match d with
 | .ref i=>match h[i]? with
  | some (.ins c k s)=>if (A c f && decide (k.length < 900))=true then some (.nx,L,h.set i (.ins c (putK f k) (nr f y k s))) else none
  | _=>none
 | _=>none
theorem Ff (hA:IJ X.K A) (ho:PE X o (tE X.K T)) (hv:PE X g (tE X.K Y)) (h:swapsWith g (some (.Attribute o f G)) J.line X.env=pure false):PS X (.Assign [.Attribute o f G] g J) (ku X.K (kx A T f Y)):=(Do ho hv h).imp' fun D N H hz=>by
 obtain⟨F,m,L,S,fl,L',S',r,l,q,k⟩:=hz;obtain⟨y,I,W,q⟩:=ah q;obtain⟨d,V,Z,q⟩:=ah q;refine⟨F,m,L,S,y,I,r,l,W,fun v U m1 H1 B r1 p1=>?_⟩;refine⟨U,m1,L,I,d,V,r1,l.mono B,Z,fun x e K n E P p2=>?_⟩;cases d with
 | p w=>cases q
 | ref i=>
  obtain⟨a,rfl,j⟩:=p2;dsimp only at q;split at q
  .rename_i c ks ds h;split at q
   .rename_i u;rw [Bool.and_eq_true] at u;cases q;obtain⟨C,b,s,M,O,rfl,rs⟩:=P.obj i a _ j h;obtain⟨C',t,hc,hn⟩:=hA c f u.1;cases i5.inj M t;have hl:s.length < 1000:=by have:=of_decide_eq_true u.2;rw [b8] at this;lia
    have Q:∀R,n a≠some (.tup R):=fun R z=>by rw [O] at z;cases z
    have st:Stp e K n e K (cc n a (.ins C b (g9 f v s))):=fG P j h trivial Q;obtain⟨i1,i2⟩:=yD (f:=f) (RD.mono st (RD.mono E p1)) (dj.mono st rs);exact⟨a,C,b,s,rfl,O,hc,hn,hl,k N e K _ (B.trans (E.trans st)) (P.set j h trivial Q ⟨C,b,_,M,aE,i1,i2⟩) ((l.mono B).mono (E.trans st))⟩
   .cases q
  .cases q
noncomputable def dA (M:Str->Str->Option GF) (o:EE) (y:Str) (a:oh):EE:=fun L S=>aF (o L S) fun d h=>match d with
 | .ref i=>match h[i]? with
  | some (.ins c k _)=>match M c y with
   | some g=>if k.contains y=true then none else aF (a L h) fun O x=>g (.ref i::O) x
   | none=>none
  | _=>none
 | _=>none
noncomputable def IG (X:Cx) (M:Str->Str->Option GF):Prop:=∀c y g,M c y=some g->∃C k f d p,i5 X.K c C/\Cls X.K C/\Meth X.K C y f/\FnOk X.prog X.w X.K X.mg X.base pI k f d p (ol X.K g)/\Room k X.A/\Binds X.K d p []
variable {M:Str->Str->Option GF}{y:Str}
theorem o9 (hM:IG X M) {t:TE}{ta:TA} (n:∀C k f b ps g,Cls X.K C->Meth X.K C y f->FnOk X.prog X.w X.K X.mg X.base pI k f b ps (ol X.K g)->Room k X.A->Binds X.K b ps []->PE X e (yn C y (ol X.K g) [] E0 (tE X.K T) (wL X.K fs))):PE X e (tE X.K (dA M T y fs)):=by
 intro B s N H Q I h;obtain⟨F,m,L,S,d,Y,r,l,q,k⟩:=h;obtain⟨x,o,e1,q⟩:=ah q;cases x with
 | p w=>cases q
 | ref i=>
  dsimp only at q;split at q
  .rename_i c ks ds hs;split at q
   .rename_i g hg;split at q
    .cases q
    .rename_i hk;obtain⟨O,K,e2,q⟩:=ah q;obtain⟨C,kk,f,b,ps,ec,hc,hm,hF,hr,hb⟩:=hM c y g hg;refine n C kk f b ps g hc hm hF hr hb B s N H Q I ⟨F,m,L,S,.ref i,o,r,l,e1,fun v G m1 H1 D A P=>?_⟩;obtain⟨a,rfl,j⟩:=id P;obtain⟨C',Z,z,u,hH,rfl,rs⟩:=A.obj i a _ j hs;cases i5.inj ec u;refine⟨a,Z,z,rfl,hH,vL (by simpa using hk),G,m1,L,o,O,K,A,l.mono D,e2,fun xs J m2 U E r2 p2=>?_⟩;show ol X.K g (V.ref a::(xs++[])) U Q E0;rw [List.append_nil];exact⟨J,m2,.ref i::O,K,d,Y,r2,⟨_,_,rfl,RD.mono E P,p2⟩,q,fun v R m3 W s3 r3 p3=>k v R m3 W (D.trans (E.trans s3)) r3 p3⟩
   .cases q
  .cases q
theorem Fq (x:IG X M) (n:PE X o (tE X.K T)) (a:PA X (e::es) (wL X.K fs)) (s:starEach (e::es) X.env=(false,eval e X.env)::starEach es X.env) (h:(backTo J (starEach es X.env)).any (·.1)=false)
  (p:eval (.Call (.Attribute o y j) (e::es) [] J) X.env=(do
   let v <- eval o X.env
   standAt j.atName
   let (f,first) <- holding [v] (getMethod v y u)
   callWith J f first (backTo J (starEach (e::es) X.env)) (backToKw J (keywordEach [] X.env)))) :
  PE X (.Call (.Attribute o y j) (e::es) [] J) (tE X.K (dA M T y fs)):=
 o9 (t:=tE X.K T) (ta:=wL X.K fs) x fun C k f d q g c m F r b=>Bb n c m F r b .nil o6 a s h p
theorem CL (i:IG X M) (B:PE X o (tE X.K T))
  (E:eval (.Call (.Attribute o y j) [] [] J) X.env=(do
   let u <- eval o X.env
   standAt j.atName
   let (f,first) <- holding [u] (getMethod u y pl)
   callWith J f first (backTo J (starEach [] X.env)) (backToKw J (keywordEach [] X.env)))) :
  PE X (.Call (.Attribute o y j) [] [] J) (tE X.K (dA M T y ba)):=
 o9 (t:=tE X.K T) (ta:=wL X.K ba) i fun C k f fd ps g K A p D z=>(yP B K A p D z .nil o6 E).imp' fun N H Q h=>by obtain⟨F,m,L,S,d,n,r,l,q,k⟩:=h;refine⟨F,m,L,S,d,n,r,l,q,fun v e I x Y V R=>?_⟩;obtain⟨a,c,fs,rfl,w,P,s,O,L2,Z,ds,b,W,l2,U,G⟩:=k v e I x Y V R;cases U;exact⟨a,c,fs,rfl,w,P,G [] s O x .refl W rfl⟩
noncomputable def pf (g:GF) (c:Str) (a:oh):EE:=fun L S=>aF (a L S) fun O h=>match g (.ref h.length::O) (h++[.ins c [] []]) with
 | some (.p .non,x)=>some (.ref h.length,x)
 | _=>none
theorem Fs {C f:Addr}{o:FuncData}{ps:LS}{k:Nat}{x:Str}{p:Pos}{g:GF} (M:Mk X.K C f) (G:FnOk X.prog X.w X.K X.mg X.base pI k f o ps (ol X.K g)) (hr:Room (k+1) X.A) (Z:Gl X x) (hm:X.mg x=some (.ref C)) (U:i5 X.K x C) (W:Binds X.K o ps [])
  (V:PA X (e::es) (wL X.K fs)) (i:(x == ("__debug__":Str))=false) (Y:starEach (e::es) X.env=(false,eval e X.env)::starEach es X.env) (z:(backTo J (starEach es X.env)).any (·.1)=false) :
  PE X (.Call (.Name x p) (e::es) [] J) (tE X.K (pf g x fs)):=
 (Bc M G hr Z hm W .nil o6 V i Y z).imp' fun N H Q hz=>by
  obtain⟨F,m,L,S,d,S',r,l,q,k⟩:=hz;obtain⟨O,t,I,q⟩:=ah q;refine⟨F,m,L,S,O,t,r,l,I,fun xs s a b s1 K p1=>fun y h hy w j=>?_⟩;split at q
  .rename_i _ S2 R;cases q;have P:Stp s a b s a (cc b h (.own y)):=iF w;have r2:Rel X.K s (cc b h (.own y)) a t:=K.new w;have u:cc b h (.own y) y=none:=by rw [am (Ne.symm j)];exact hy
   have A:Stp s a (cc b h (.own y)) s (a++[y]) (cc (cc b h (.own y)) y (.ins C h [])):=gg u;have r3:Rel X.K s (cc (cc b h (.own y)) y (.ins C h [])) (a++[y]) (t++[.ins x [] []]):=r2.own u ⟨C,h,[],U,aE,rfl,rfl⟩;rw [List.append_nil];have c:(a++[y])[t.length]? = some y:=by rw [<- K.len,fV (Nat.le_refl _)];simp
   refine⟨s,a++[y],.ref t.length::O,_,.p .non,_,r3,⟨_,_,rfl,⟨y,rfl,c⟩,dj.mono A (dj.mono P p1)⟩,R,fun v D m4 E B r4 p4=>⟨p4,?_⟩⟩;refine k (.ref y) D m4 E (s1.trans (P.trans (A.trans B))) r4 ⟨y,rfl,?_⟩;obtain⟨n,T⟩:=B.pre;rw [T,List.getElem?_append_left (List.getElem?_eq_some_iff.mp c).1];exact c
  .cases q
end
theorem DS (h:attributeBase o y v (eval o v)=eval o v) (e:methodCallForm (r.length+([]:List Keyword).length) (backTo J (starEach r v)) (backToKw J (keywordEach [] v))=true) (l:(j.endLine == J.line)=true) :
  eval (.Call (.Attribute o y j) r [] J) v=(do
   let u <- eval o v
   standAt j.atName
   let (f,first) <- holding [u] (getMethod u y (do return (<- importBound o v).getD true))
   callWith J f first (backTo J (starEach r v)) (backToKw J (keywordEach [] v))):=by
 have x:methodCallPos true o v j J=pure J:=by unfold methodCallPos;rw [l];rfl
 have a:∀u,methodCall o y j J v u (r.length+([]:List Keyword).length) (backTo J (starEach r v)) (backToKw J (keywordEach [] v))=(do
   let (f,first) <- holding [u] (getMethod u y (do return (<- importBound o v).getD true))
   callWith J f first (backTo J (starEach r v)) (backToKw J (keywordEach [] v))):=fun u=>by
  unfold methodCall;rw [e,x];rfl
 have s:eval (.Call (.Attribute o y j) r [] J) v=(do
  let u <- attributeBase o y v (eval o v)
  standAt j.atName
  methodCall o y j J v u (r.length+([]:List Keyword).length) (backTo J (starEach r v)) (backToKw J (keywordEach [] v))):=by rfl
 rw [s,h];simp only [a]
open PySem.W (KasT kas_sort kas_ask kas_item kat_run kat_snds kat_lt kat_kind KatTups KatLex kat_nil kat_cons kat_yes kat_no kat_one)
noncomputable def BH (lt:Nat->Nat->Option Bool):KasT d->Option d
 | .ret a=>some a
 | .ask i j k=>match lt i j with
  | some b=>BH lt (k b)
  | none=>none
theorem zM (c:∀i j b C,lt i j=some b->C b s->r i j C s) (q:Q a s) :
  ∀(t:KasT d),BH lt t=some a->t.kasWp r Q s
 | .ret _,h=>by cases h;exact q
 | .ask i j k,h=>by
  simp only [BH] at h;split at h
  .rename_i b x;exact c i j b _ x (zM c q (k b) h)
  .cases h
section
variable {I:Program}{w:World}{A:Around}{E:VP}{s:Shared}{D:Addr}{O:LV}
theorem sV (few:O.length < 2):((arrOf (SortSt.mk' general' (O.toArray.zip O.toArray) #[] 7 none)).map (·.2))=O.toArray:=by
 have same:(O.toArray.zip O.toArray).map (·.2)=O.toArray:=by
  rcases O with _ | ⟨v,_ | ⟨u,r⟩⟩
  .simp
  .simp
  .exact absurd few (by simp)
 exact same
theorem zL (few:O.length < 2) (a:s.heap.get? D=some (seqObj "list" O.toArray r))
  (g:∀x c,(∀b o,b≠D->s.heap.get? b=some o->x.get? b=some o)->x.get? D=some (seqObj "list" O.toArray c)->v (.done (.ret .none)) { s with heap:=x }) :
  wpAny (model I w) A (Builtin.«list.sort» ⟨[.ref D],[]⟩) v E s:=by
 have m:O.length+1≤sizeLine:=by rw [jD];lia
 have cond:O.toArray.size < 2:=by simpa using few
 have h:=get?_update_seq a fun _=>(#[]:Array Value);rw [list_sort_plain];refine wpAny_bind <| listItems_at a rfl <| wpAny_bind <| listUpdate_at a rfl (wpAny_bind <| seqEpoch_at h rfl <| wpAny_bind <| wpAny_newTuple (wpAny_bind <| wpAny_newList (wpAny_holding ?_) (Nat.zero_le _)) (by simpa using p6 m)) (by simpa using p6 m) (Nat.zero_le _);simp only [cond,iC];have k:∀b o,(s.heap.update D (Obj.mapSeq fun _=>(#[]:Array Value))).get? b=some o->((((s.heap.update D (Obj.mapSeq fun _=>(#[]:Array Value))).push { cls:=.type "tuple",data:=.seq O.toArray }).push { cls:=.type "list",data:=.seq ([]:LV).toArray })).get? b=some o:=
  fun _ _ q=>Heap.get?_push_of_some _ (Heap.get?_push_of_some _ q)
 have t:=k D _ h;refine wpAny_bind <| wpAny_pure <| wpAny_bind <| wpAny_pure ?_;refine wpAny_bind <| seqEpoch_at t rfl <| wpAny_bind <| listUpdate_at t rfl ?_ (Nat.zero_le _) (by rw [sV few];simpa using Nat.le_succ_of_le (p6 m));rw [sV few];have EG:=get?_update_seq t fun _=>O.toArray;simp only [bne_self_eq_false,Bool.false_eq_true,if_false,failedOf];refine wpAny_pure (g _ _ (fun b o n e=>?_) EG);exact ((mV _ D _).2 b n).trans (k b o (((mV s.heap D _).2 b n).trans e))
theorem tR (q:∀a u,Q a u->r a u):∀(t:KasT d) (u:Shared),t.kasWp (kas_ask I w A v O) Q u->t.kasWp (kas_ask I w A v O) r u
 | .ret a,u,h=>q a u h
 | .ask _ _ k,_,h=>wpAny_mono h (fun b u e=>tR q (k b) u e) fun _ _ x=>x
theorem AO {a:Heap}{L l:Addr}{m:SV}{t:PN}{T:String}{o:Obj}{n:Nat}{G:VP} (F:Fr a L s.heap m) (N:News a L s.heap t) (Z:T="list"\/T="tuple") (ho:s.heap.get? l=some o) (hc:o.cls=.type T) (hd:o.data=.seq O.toArray n) (B:O.length < 64)
  (X:O.length < 2->∀D d c,s.heap.get? D=none->Fr a L d m->News a L d ((D,seqObj "list" O.toArray c)::t)->G (.ref D) { s with heap:=d })
  (Y:2≤O.length->∀D e d,s.heap.get? D=none->(∀q ∈ t,q.1≠D)->Fr a L d m->News a L d ((D,seqObj "list" #[] e)::t) ->
   wpAny (model I w) A.in1.in1 (keyKind' O.toArray) (fun Q u=>(kas_sort O.length).kasWp (kas_ask I w A.in1.in1 Q O) (fun p u=>PySem.W.KasFin a L m D e (p.toList.map fun i=>O.getD i Value.none) (fun u=>G (.ref D) u) u) u) (fun _ _=>False) { s with heap:=d }) :
  wpAny (model I w) A (call (.builtin "sorted") [.ref l]) G E s:=by
 have y:O.length≤sizeLine:=by rw [jD];lia
 refine Calls.call_function_entry (b:=Builtin.«sorted») kind_sorted plain_sorted entry_sorted (args_sorted1 (.ref l)) (wpAny_bind (m:=checkCount "sorted" 1 1 1) <| wpAny_pure <| wpAny_bind <| wpAny_collect_seq l Z ho hc hd (fun h k=>wpAny_bind <| wpAny_newList ?_ y) y);have f:∀b,b=h.objs.size->s.heap.get? b=none:=fun b hb=>by
  cases q:s.heap.get? b with
  | none=>rfl
  | some u=>exact absurd (Heap.lt_size (k b u q)) (by rw [hb];exact i' _)
 have M:∀b u,s.heap.get? b=some u->(h.push { cls:=.type "list",data:=.seq O.toArray }).get? b=some u:=fun b u e=>Heap.get?_push_of_some _ (k b u e);have j:(h.push { cls:=.type "list",data:=.seq O.toArray }).get? h.objs.size=some (seqObj "list" O.toArray 0):=Heap.get?_push_size _ rfl;have H:h.objs.size≠L:=fun z=>by obtain⟨u,_,_,e,_⟩:=F.ns;rw [f L z.symm] at e;cases e
 have S:a.get? h.objs.size=none:=by
  rcases q:a.get? h.objs.size with _ | u
  .rfl
  .have:=F.keep _ _ q;rw [f _ rfl] at this;cases this
 have neN:∀q ∈ t,q.1≠h.objs.size:=fun q hq z=>by have:=(N q hq).1;rw [f _ z] at this;cases this
 have K:=F.keeps M;have P:=N.keeps M;refine wpAny_bind (wpAny_holding (wpAny_call_entry (b:=Builtin.«list.sort») slot_list_sort ⟨_,j,rfl⟩ entry_list_sort ?_ (args_list_sort _)));by_cases few:O.length < 2
 .refine zL (s:={ s with heap:=h.push { cls:=.type "list",data:=.seq O.toArray } }) few j fun d c J e=>⟨_,rfl,wpAny_pure ⟨_,rfl,X few _ d c (f _ rfl) ⟨?_,fun b u q=>?_,F.above⟩ fun q g=>?_⟩⟩
  .obtain⟨u,es,W,V,r⟩:=K.ns;exact⟨u,es,W,J L u H.symm V,r⟩
  .exact J b u (fun z=>by rw [z,S] at q;cases q) (K.keep b u q)
  .rcases bj.mp g with rfl | g
   .exact⟨e,H,S⟩
   .exact⟨J _ _ (neN q g) (P q g).1,(P q g).2⟩
 .refine PySem.W.kat_list_sort (s:={ s with heap:=h.push { cls:=.type "list",data:=.seq O.toArray } }) K P j H S neN (by lia) B fun e d R U=>?_;refine wpAny_mono (Y (by lia) _ e d (f _ rfl) neN R U) (fun Q u hu=>?_) fun _ _ x=>x;exact tR (fun p v C=>C.mono fun v C=>⟨_,rfl,wpAny_pure ⟨_,rfl,C⟩⟩) _ _ hu
end
noncomputable def isInt:P->Bool
 | .int _=>true
 | _=>false
noncomputable def uD:List P->List P->Option Bool
 | [],s=>some (decide (0 < s.length))
 | _::_,[]=>some false
 | .int a::x,.int b::y=>if a == b then uD x y else some (decide (a < b))
 | .str a::x,.str b::y=>if a=b then uD x y else some (decide (a.cps.toList < b.cps.toList))
 | _,_=>none
noncomputable def BA:P->Bool
 | .int _=>true
 | .str _=>true
 | _=>false
noncomputable def JU:P->P->Option Bool
 | .int a,.int b=>some (decide (a < b))
 | .tup x,.tup y=>uD x y
 | _,_=>none
noncomputable def ll:P->Bool
 | .tup (e::es)=>(e::es).all isInt
 | _=>false
noncomputable def nE:P->Bool
 | .tup (.str _::es)=>es.all BA
 | _=>false
noncomputable def jj (d:List P) (i j:Nat):Option Bool:=match d[i]?,d[j]? with
 | some x,some y=>JU x y
 | _,_=>none
noncomputable def lK (d:List P):Option (List P):=if d.length < 2 then some d else if d.length < 64 then (BH (jj d) (kas_sort d.length)).bind fun p=>if p.size < 64 then some (p.toList.map fun i=>d.getD i .non) else none else none
noncomputable def sortable (d:List P):Bool:=(d.all isInt || d.all ll) || d.all nE
noncomputable def jx (d:List P):Option P:=if sortable d=true then (lK d).map .lst else none
noncomputable def IV (e:P) (u:Value):Prop:=∃i t,e=P.int i/\u=Value.int i t
noncomputable def FV (e:P) (u:Value):Prop:=IV e u\/∃x t,e=P.str x/\u=Value.str x t
noncomputable def KV (h:Heap) (d:P) (v:Value):Prop:=IV d v\/∃es a o n i,d=.tup es/\v=.ref a/\h.get? a=some o/\o.cls=.type "tuple"/\o.data=.seq (List.toArray i) n/\Paired FV es i
variable {l:Type}{R:d->l->Prop}
theorem fx:∀{s:List d}{a:List l}{i:Nat}{x:d},Paired R s a->s[i]? = some x->∃y,a[i]? = some y/\R x y
 | _,_,_,_,.nil,h=>by simp at h
 | _,_,0,x,.cons (b:=b) r _,h=>⟨b,rfl,by simp at h;subst h;exact r⟩
 | _,_,i+1,x,.cons _ n,h=>by obtain⟨y,e,r⟩:=fx (i:=i) n (by simpa using h);exact⟨y,by simpa using e,r⟩
theorem eI:∀{x:List d}{y:List l},Paired R x y->x.length=y.length
 | _,_,.nil=>rfl
 | _,_,.cons _ r=>by rw [bc,bc,eI r]
variable {h:Heap}
theorem sN:∀{s:List P}{O:LV},Paired (KV h) s O->s.all isInt=true->∃x,IntsAre O x
 | _,_,.nil,_=>⟨[],.nil⟩
 | d::s,_,.cons k r,q=>by
  rw [dD,Bool.and_eq_true] at q;obtain⟨x,i⟩:=sN r q.2;rcases k with ⟨n,t,rfl,rfl⟩ | ⟨es,a,o,n,e,rfl,_⟩
  .exact⟨n::x,.cons n t i⟩
  .exact nomatch q.1
section
variable {I:Program}{w:World}{A:Around}{E:VP}{s:Shared}
theorem BY (r:Paired (KV s.heap) ds O) (q:ds.all isInt=true) (h:jj ds i L=some b) (c:a0 b s):kas_ask I w A oneType' O i L a0 s:=by
 unfold jj at h;split at h
 .rename_i x y k f;obtain⟨u,m,d⟩:=fx r k;obtain⟨v,p,g⟩:=fx r f;have j:=bn.mp q x (bF k);have l:=bn.mp q y (bF f);rcases d with ⟨n,t,rfl,rfl⟩ | ⟨es,a,o,n,e,rfl,_⟩
  .rcases g with ⟨z,H,rfl,rfl⟩ | ⟨es,a,o,n,e,rfl,_⟩
   .cases h;unfold kas_ask;rw [iA,iA,m,p];exact PySem.W.kat_lt_int c
   .exact nomatch l
  .exact nomatch j
 .cases h
theorem qF {k:Bool}{Q:Bool->Shared->Prop}:∀{es fs:List P}{n j:LV}{i:Nat}{b:Bool},Paired FV es n->Paired FV fs j->uD es fs=some b->k=decide (n.length < j.length)->Q b s->KatLex I w A true k Q (n.zip j) i s
 | _,_,_,_,i,b,.nil,r,h,f,c=>by cases h;rw [List.zip_nil_left];refine kat_nil ?_;rw [f,<- eI r];exact c
 | _,_,_,_,i,b,.cons _ _,.nil,h,f,c=>by
  have:b=false:=by unfold uD at h;cases h;rfl
  subst this;rw [List.zip_nil_right];refine kat_nil ?_;rw [f];simpa using c
 | _,_,_,_,i,b,.cons v p,.cons m q,h,f,c=>by
  rcases v with ⟨x,t,rfl,rfl⟩ | ⟨x,t,rfl,rfl⟩
  .rcases m with ⟨y,u,rfl,rfl⟩ | ⟨y,u,rfl,rfl⟩
   .rw [List.zip_cons_cons];refine kat_cons (wpAny_eqBool_int ?_);unfold uD at h;by_cases e:(x == y)=true
    .rw [e];rw [if_pos e] at h;exact kat_yes (qF p q h (by rw [f];simp) c)
    .rw [pV] at e;rw [e];rw [e,if_neg bS] at h;cases h;refine kat_no ?_;by_cases a:(i == 0)=true
     .rw [a];exact oneLt_int c
     .rw [pV] at a;rw [a];exact kat_one _ _ (PyProof.Rows.lt_int (show PySem.W.BoolBack Q (.bool _) s from c))
   .unfold uD at h;cases h
  .rcases m with ⟨y,u,rfl,rfl⟩ | ⟨y,u,rfl,rfl⟩
   .unfold uD at h;cases h
   .rw [List.zip_cons_cons];refine kat_cons (wpAny_eqBool_str ?_);unfold uD at h;by_cases e:x=y
    .rw [iq e];rw [if_pos e] at h;exact kat_yes (qF p q h (by rw [f];simp) c)
    .rw [bq e];rw [if_neg e] at h;cases h;refine kat_no ?_;by_cases a:(i == 0)=true
     .rw [a];exact oneLt_str c
     .rw [pV] at a;rw [a];exact kat_one _ _ (PyProof.Rows.lt_str (show PySem.W.BoolBack Q (.bool _) s from c))
theorem wx {e:List P}{O:LV}{i j:Nat}{b:Bool}{C:Bool->Shared->Prop} (r:Paired (KV s.heap) e O) (q:∀d ∈ e,¬∃n,d=P.int n) (h:jj e i j=some b) (c:C b s):kas_ask I w A (tuples' true) O i j C s:=by
 unfold jj at h;split at h
 .rename_i x y p g;obtain⟨u,F,D⟩:=fx r p;obtain⟨v,K,E⟩:=fx r g;have J:=q x (bF p);have L:=q y (bF g);rcases D with ⟨n,t,rfl,rfl⟩ | ⟨es,a,o,n,B,rfl,rfl,S,Q,hd,M⟩
  .exact absurd ⟨_,rfl⟩ J
  .rcases E with ⟨G,T,rfl,rfl⟩ | ⟨z,N,R,G,l,rfl,rfl,f,H,k,m⟩
   .exact absurd ⟨_,rfl⟩ L
   .unfold kas_ask;rw [iA,iA,F,K];exact kat_lt S hd f k (qF M m h (by simp) c)
 .cases h
theorem sI:∀{s:List P}{O:LV},Paired (KV h) s O->s.all ll=true->∃fs,KatTups h O fs/\fs.length=s.length/\∀v ∈ fs,∃i t,v=Value.int i t
 | _,_,.nil,_=>⟨[],.nil,rfl,fun _ z=>nomatch z⟩
 | d::s,_,.cons k r,q=>by
  rw [dD,Bool.and_eq_true] at q;obtain⟨fs,f,e,b⟩:=sI r q.2;rcases k with ⟨n,t,rfl,rfl⟩ | ⟨es,a,o,n,w,rfl,rfl,p,c,hd,x⟩
  .exact nomatch q.1
  .cases x with
   | nil=>exact nomatch q.1
   | cons u x=>
    rcases u with ⟨i,t,rfl,rfl⟩ | ⟨i,t,rfl,rfl⟩;rotate_left
    .simp [ll,isInt] at q
    refine⟨.int i t::fs,.cons p c hd rfl f,by rw [bc,bc,e],fun v m=>?_⟩;rcases bj.mp m with rfl | m
    .exact⟨i,t,rfl⟩
    .exact b v m
theorem sJ:∀{s:List P}{O:LV},Paired (KV h) s O->s.all nE=true->∃fs,KatTups h O fs/\fs.length=s.length/\∀v ∈ fs,∃x t,v=Value.str x t
 | _,_,.nil,_=>⟨[],.nil,rfl,fun _ z=>nomatch z⟩
 | d::s,_,.cons k r,q=>by
  rw [dD,Bool.and_eq_true] at q;obtain⟨fs,f,b,c⟩:=sJ r q.2;rcases k with ⟨n,t,rfl,rfl⟩ | ⟨es,a,o,n,u,rfl,rfl,w,p,hd,e⟩
  .exact nomatch q.1
  .cases e with
   | nil=>exact nomatch q.1
   | cons g e=>
    rcases g with ⟨i,t,rfl,rfl⟩ | ⟨i,t,rfl,rfl⟩
    .exact nomatch q.1
    .refine⟨.str i t::fs,.cons w p hd rfl f,by rw [bc,bc,b],fun v m=>?_⟩;rcases bj.mp m with rfl | m
     .exact⟨i,t,rfl⟩
     .exact c v m
theorem Cg {s:List P}{f:P->Bool} (h:∀n,f (.int n)=false) (q:s.all f=true):∀d ∈ s,¬∃n,d=P.int n:=fun d hd z=>by
 obtain⟨n,e⟩:=z;have:=bn.mp q d hd
 rw [e,h] at this;cases this
theorem Bx {d:List P}{O:LV} (r:Paired (KV s.heap) d O) (q:sortable d=true) (m:2≤O.length) :
  wpAny (model I w) A (keyKind' O.toArray) (fun u k=>k=s/\∀i j b C,jj d i j=some b->C b k->kas_ask I w A u O i j C k) (fun _ _=>False) s:=by
 unfold sortable at q;rw [ja,ja] at q;rcases q with (q | q) | q
 .obtain⟨g,p⟩:=sN r q;have o:keyKind' O.toArray=pure oneType':=by
   rcases O with _ | ⟨x,_ | ⟨y,z⟩⟩
   .exact absurd m (by simp)
   .exact absurd m (by simp)
   .exact keyKind_ints p
  rw [o];exact wpAny_pure ⟨rfl,fun i j b C e c=>BY r q e c⟩
 .obtain⟨fs,f,h,a⟩:=sI r q;refine kat_kind (T:=.type "int") f (by rw [h,eI r];lia) (fun v n=>?_) rfl ⟨rfl,fun i j b C e c=>wx r (Cg (fun _=>rfl) q) e c⟩;obtain⟨i,t,rfl⟩:=a v n;exact PySem.W.Looks.of_peek (K:=[]) (fun _ _ z=>nomatch z) rfl
 .obtain⟨fs,f,h,a⟩:=sJ r q;refine kat_kind (T:=.type "str") f (by rw [h,eI r];lia) (fun v n=>?_) rfl ⟨rfl,fun i j b C e c=>wx r (Cg (fun _=>rfl) q) e c⟩;obtain⟨i,t,rfl⟩:=a v n;exact PySem.W.Looks.of_peek (K:=[]) (fun _ _ z=>nomatch z) rfl
end
section
variable {X:Cx}
theorem zI:∀{es:List P}{s:List V}{j:LV},ci K F H es s->aL s j->es.all BA=true->Paired FV es j
 | [],_,_,h,r,_=>by cases (show _=([]:List V) from h);cases r;exact .nil
 | e::es,_,_,h,r,q=>by
  obtain⟨y,x,rfl,p,pr⟩:=h;rw [dD,Bool.and_eq_true] at q;cases r with
  | cons v1 v2=>
   cases e with
   | int i=>cases (show y=.int i from p);obtain⟨t,rfl⟩:=v1;exact .cons (.inl ⟨i,t,rfl,rfl⟩) (zI pr v2 q.2)
   | str i=>cases (show y=.str i from p);obtain⟨t,rfl⟩:=v1;exact .cons (.inr ⟨i,t,rfl,rfl⟩) (zI pr v2 q.2)
   | _=>exact nomatch q.1
theorem zj (I:Inv X B N H s):∀{b:List P}{m:List V}{f:LV},ci X.K F H b m->aL m f->b.all (fun d=>(isInt d || ll d) || nE d)=true->Paired (KV s.heap) b f
 | [],_,_,h,r,_=>by cases (show _=([]:List V) from h);cases r;exact .nil
 | d::b,_,_,h,r,q=>by
  obtain⟨x,D,rfl,p,g⟩:=h;rw [dD,Bool.and_eq_true] at q;cases r with
  | cons c S=>
   refine .cons ?_ (zj I g S q.2);cases d with
   | int i=>cases (show x=.int i from p);obtain⟨t,rfl⟩:=c;exact .inl ⟨i,t,rfl,rfl⟩
   | tup es=>
    obtain⟨a,E,rfl,C,K⟩:=p;cases c;obtain⟨j,A,⟨o,w,v,n,hd⟩,_⟩:=I.tuple C.sq;refine .inr ⟨es,a,o,n,j,rfl,rfl,w,v,hd,?_⟩;have z:es.all BA=true:=by
     have k:=q.1;cases es with
     | nil=>rfl
     | cons e es=>
      have l:∀x:P,isInt x=true->BA x=true:=fun x h=>by cases x <;> first | rfl | cases h
      rw [ja] at k;rcases k with k | k
      .have y:(e::es).all isInt=true:=by simpa [isInt,ll] using k
       exact bn.mpr fun x u=>l x (bn.mp y x u)
      .cases e with
       | str x=>rw [dD,Bool.and_eq_true];exact⟨rfl,k⟩
       | _=>exact nomatch k
    exact zI K A z
   | _=>exact nomatch q.1
theorem om (q:sortable r=true):r.all (fun d=>(isInt d || ll d) || nE d)=true:=by
 unfold sortable at q;rw [ja,ja] at q;refine bn.mpr fun x h=>?_
 rcases q with (q | q) | q
 .rw [bn.mp q x h];rfl
 .rw [bn.mp q x h,Bool.or_true];rfl
 .rw [bn.mp q x h,Bool.or_true]
theorem FA (r:aL u v) (i:Nat):RelV (u.getD i .non) (v.getD i Value.none):=by
 rw [iA,iA];cases e:u[i]? with
 | none=>
  have l:=eI r;have:v[i]? = none:=by rw [List.getElem?_eq_none_iff] at e ⊢;lia
  rw [this];rfl
 | some x=>obtain⟨y,h,a⟩:=fx r e;rw [h];exact a
theorem ve (r:aL u v):∀p:List Nat,aL (p.map fun i=>u.getD i .non) (p.map fun i=>v.getD i Value.none)
 | []=>.nil
 | i::p=>.cons (FA r i) (ve r p)
theorem yz (r:ci K F H v u):∀p:List Nat,ci K F H (p.map fun i=>v.getD i .non) (p.map fun i=>u.getD i .non)
 | []=>rfl
 | i::p=>by
  refine⟨_,_,rfl,?_,yz r p⟩;show RP K F H (v.getD i P.non) (u.getD i V.non);rw [iA,iA];cases e:v[i]? with
  | none=>
   have l:=r.length;have:u[i]? = none:=by rw [List.getElem?_eq_none_iff] at e ⊢;lia
   rw [this];rfl
  | some d=>obtain⟨x,h,a⟩:=r.get e;rw [h];exact a
theorem lm {r:Heap}{A:Nat} (I:Inv X B N H s) (y:s.heap.Ns X.env.locals m) (a:r.Ns X.env.locals m) (k:∀b o,b≠X.env.locals->s.heap.get? b=some o->r.get? b=some o):Inv X B N H { s with heap:=r,toks:=A }:=by
 have L:∀b u,H b=some u->b≠X.env.locals:=fun b u e z=>by rw [z,I.free] at e;cases e
 refine I.step (g':=s.gens) (d':=s.drawn) (ch:=[]) (fun _ z=>nomatch z) (fun b o h _ _ e _=>k b o h e) (fun b o h _ _ e _=>⟨o.slots,k b o h e⟩) (fun _ _ _ _ n=>n) (fun b o _ e=>?_) (fun _ _ e=>e) (fun _ _ _ e=>e) (fun b G e=>⟨#[],by rw [e];simp⟩) (fun K l=>?_) (fun b u e=>?_) I.bare
 .by_cases h:b=X.env.locals
  .subst h;obtain⟨P,_,_,w,_⟩:=a;exact⟨P,w⟩
  .exact⟨o,k b o h e⟩
 .obtain⟨o,es,C,S,hd,D,t⟩:=y;obtain⟨E,i,g,f,d,F,p⟩:=l;rw [S] at f;cases f;rw [hd] at d;cases d;have:m=K:=funext fun x=>(t x).symm.trans (p x);rw [<- this];exact a
 .refine (I.hok b u e).stay (fun c v j q=>k c v ?_ q) (fun _ q=>q) fun _ _ q=>q;rcases j with z | z
  .rw [z];exact L b u e
  .exact L c _ z
theorem nC (k:∀b o,r.get? b=some o->h.get? b=some o) (F:Fr r L v m) (N:News r L v (jH r h L)):∀b o,b≠L->h.get? b=some o->v.get? b=some o:=fun b o x e=>by
 cases q:r.get? b with
 | some u=>have:=k b u q;rw [e] at this;cases this;exact F.keep b _ q
 | none=>exact (N (b,o) (sE x q e)).1
theorem DO {P:Program}{w:World}{H:Hp}{h:Heap}{a:Addr}{o:HO} (x:ce P w H h a o):∃u,h.get? a=some u:=by
 cases o with
 | lst s=>obtain⟨_,_,_,_,e⟩:=x;exact⟨_,e⟩
 | tup s=>obtain⟨_,_,_,_,e,_⟩:=x;exact⟨_,e⟩
 | dK k=>obtain⟨_,_,_,_,_,_,_,e,_⟩:=x;exact⟨_,e⟩
 | dT k=>obtain⟨_,_,_,_,_,_,_,e,_⟩:=x;exact⟨_,e⟩
 | set S n=>obtain⟨_,_,_,_,e,_⟩:=x;exact⟨_,e⟩
 | ins C d fs=>obtain⟨_,_,_,e,_⟩:=x;exact⟨_,e⟩
 | own y=>exact x
 | xd fs=>obtain⟨_,⟨_,_,_,e,_⟩,_⟩:=x;exact⟨_,e⟩
 | rng lo i=>obtain⟨_,_,_,e⟩:=x;exact⟨_,e⟩
 | frz b u=>exact⟨_,x.1⟩
 | tbl p=>exact⟨_,(show h.get? a=some _ from x)⟩
 | met f y=>exact⟨_,(show h.get? a=some _ from x)⟩
 | ext c=>exact x.2.1
theorem zx {B:PN}{N:L2.St}{H:Hp}{s:Shared}{D:Addr} (I:Inv X B N H s) (h:s.heap.get? D=none):H D=none:=by
 cases q:H D with
 | none=>rfl
 | some v=>obtain⟨u,e⟩:=DO (I.hok D v q);rw [h] at e;cases e
theorem xj {B:PN}{N:L2.St}{H:Hp}{s:Shared}{t:Heap}{S:Nat}{m:SV}{D:Addr}{u:HO} (I:Inv X B N H s) (y:s.heap.Ns X.env.locals m) (h:t.Ns X.env.locals m) (k:∀b o,b≠X.env.locals->s.heap.get? b=some o->t.get? b=some o) (j:s.heap.get? D=none) (i:ce X.prog X.w (cc H D u) t D u):Inv X B N (cc H D u) { s with heap:=t,toks:=S }:=by
 have f:=zx I j;have J:∀b o,s.heap.get? b=some o->b≠D:=fun b o e z=>by rw [z,j] at e;cases e
 have r:∀b v,H b=some v->b≠D:=fun b v e z=>by rw [z,f] at e;cases e
 have F:=lm (A:=S) I y h k;refine I.step (g':=s.gens) (d':=s.drawn) (ch:=[]) (fun _ z=>nomatch z) (fun b o L _ _ e _=>k b o L e) (fun b o L _ _ e _=>⟨o.slots,k b o L e⟩) (fun b o _ e n=>(am (J b o e)).trans n) (fun b o _ e=>?_) (fun b O e=>(am (r b _ e)).trans e) (fun b o v e=>(am (r b _ e)).trans e) (fun b U e=>⟨#[],by rw [am (r b _ e),e];simp⟩) (fun G A=>?_) (fun b v e=>?_) I.bare
 .by_cases L:b=X.env.locals
  .subst L;obtain⟨M,_,_,g,_⟩:=h;exact⟨M,g⟩
  .exact⟨o,k b o L e⟩
 .obtain⟨o,es,Q,C,hd,R,p⟩:=y;obtain⟨T,P,K,a,d,E,w⟩:=A;rw [C] at a;cases a;rw [hd] at d;cases d;have:m=G:=funext fun x=>(p x).symm.trans (w x);rw [<- this];exact h
 .by_cases l:b=D
  .subst l;rw [aE] at e;cases e;exact i
  .rw [am l] at e;exact (F.hok b v e).stay (fun _ _ _ q=>q) (fun c q=>(am (r c _ q)).trans q) fun c O q=>(am (r c _ q)).trans q
theorem rG:c6 X (.builtin "sorted") (fun xs H Q=>∃F a A K b,xs=[.ref a]/\(gQ X.K H a A\/kT X.K H a A)/\ci X.K F H K A/\sortable K=true/\lK K=some b/\∀l z,H l=none->ci X.K F H b z->Q (.ref l) (cc H l (.lst z))):=by
 intro B s N H xs us Q I r h;obtain⟨F,a,A,K,b,rfl,J,L,hs,k,q⟩:=h;obtain⟨u,rfl,rx⟩:=vals1 r;cases rx;obtain⟨m,O⟩:=I.fr;have w:∀(T:String) (hT:T="list"\/T="tuple") (t:LV) (o:Obj) (n:Nat),aL A t->s.heap.get? a=some o->o.cls=.type T->o.data=.seq t.toArray n->wpAny (model X.prog X.w) X.A (call (.builtin "sorted") [.ref a]) (EP X B N Q) X.xe s:=by
  intro T hT t o n M G E hd;have W:=L.length;have Y:=eI M;have S:K.length < 64:=by
   unfold lK at k;split at k
   .lia
   .split at k
    .lia
    .cases k
  have C:∀(z:List V) (j:LV) (D:Addr) (f:Heap) (c:Nat),aL z j->ci X.K F H b z->j.length≤64->s.heap.get? D=none->Fr X.base X.env.locals f m->News X.base X.env.locals f ((D,seqObj "list" j.toArray c)::jH X.base s.heap X.env.locals)->EP X B N Q (.ref D) { s with heap:=f }:=
   fun z j D f c vz rz hz P d y=>⟨.ref D,_,xj (S:=s.toks) I O.ns d.ns (nC I.bk d fun p Z=>y p (.tail _ Z)) P (show ce X.prog X.w _ f _ (.lst z) from ⟨by rw [eI vz,jD];lia,j,c,vz,(y _ (.head _)).1⟩),rfl,q _ z (zx I P) rz⟩
  refine AO O (sw (g:=X.base)) hT G E hd (by lia) (fun few D f c P d y=>?_) fun two D e f P ne d y=>?_
  .unfold lK at k;rw [if_pos (by lia)] at k;cases k;exact C A t D f c M L (by lia) P d y
  .unfold lK at k;rw [if_neg (by lia),if_pos S] at k;obtain⟨p,ep,k⟩:=Option.bind_eq_some_iff.mp k;split at k;case isFalse=>cases k
   rename_i ps;cases k;have I1:Inv X B N H { s with heap:=f }:=lm (A:=s.toks) I O.ns d.ns (nC I.bk d fun p Z=>y p (.tail _ Z));have U:BH (jj K) (kas_sort t.length)=some p:=by rw [<- Y,<- W];exact ep
   refine wpAny_mono (Bx (s:={ s with heap:=f }) (zj I1 L M (om hs)) hs two) (fun κ v hv=>?_) fun _ _ x=>x;obtain⟨rfl,R⟩:=hv;exact zM (a:=p) (Q:=fun p u=>PySem.W.KasFin X.base X.env.locals m D e (p.toList.map fun i=>t.getD i Value.none) (fun u=>EP X B N Q (.ref D) u) u) R (PySem.W.KasFin.intro d y (.head ne) fun h2 c F2 N2=>C _ _ D h2 c (ve M p.toList) (yz L p.toList) (by rw [b8,mW];lia) P F2 N2) _ U
 rcases J with J | J
 .obtain⟨t,r',pl,hz⟩:=I.list J;obtain⟨o,G,E,n,hd⟩:=pl.isList;exact w "list" (.inl rfl) t o n r' G E hd
 .obtain⟨t,r',⟨o,G,E,n,hd⟩,hz⟩:=I.tuple J;exact w "tuple" (.inr rfl) t o n r' G E hd
noncomputable def B8:List D->Option (List P)
 | []=>some []
 | .p v::r=>(B8 r).map (v::·)
 | .ref _::_=>none
theorem x_:∀{d:List D}{O:List P},B8 d=some O->d=O.map .p
 | [],O,h=>by cases h;rfl
 | .p v::r,O,h=>by
  cases e:B8 r with
  | none=>simp only [B8,e] at h;cases h
  | some w=>simp only [B8,e] at h;cases h;rw [x_ e];rfl
 | .ref _::_,O,h=>by cases h
theorem B_:∀{O:List P}{s:List V},dj K F H m (O.map .p) s->ci K F H O s
 | [],_,h=>h
 | _::_,_,h=>by obtain⟨x,r,e,a,n⟩:=h;exact⟨x,r,e,a,B_ n⟩
noncomputable def AS:P->Option (List P)
 | .lst x=>some x
 | .ro x=>some x
 | .tup x=>some x
 | _=>none
noncomputable def wP:D->aD->Option (List P)
 | .p v,_=>AS v
 | .ref i,S=>match S[i]? with
  | some (.lst d)=>B8 d
  | some (.fz v)=>AS v
  | _=>none
noncomputable def oX (r:EE):EV:=fun L S=>aF (r L S) fun d h=>match wP d h with
 | some x=>(jx x).map fun v=>(v,h)
 | none=>none
theorem vq (p:RP K F H w v) (h:AS w=some u):∃a y,v=.ref a/\(gQ K H a y\/kT K H a y)/\ci K F H u y:=by
 cases w with
 | tup d=>obtain⟨a,y,rfl,t,r⟩:=p;cases h;exact⟨a,y,rfl,.inr t.sq,r⟩
 | lst d=>obtain⟨a,y,rfl,t,r⟩:=p;cases h;exact⟨a,y,rfl,.inl t.sq,r⟩
 | ro d=>obtain⟨a,y,rfl,t,r⟩:=p;cases h;exact⟨a,y,rfl,.inl t.sq,r⟩
 | _=>cases h
theorem AT (r:Rel K F H m S) (p:RD K F H m u v) (h:wP u S=some L):∃a y,v=.ref a/\(gQ K H a y\/kT K H a y)/\ci K F H L y:=by
 cases u with
 | p w=>exact vq p h
 | ref i=>
  obtain⟨a,rfl,x⟩:=p;simp only [wP] at h;split at h
  .rename_i d es;obtain⟨y,e,s⟩:=r.obj i a _ x es;rw [x_ h] at s;exact⟨a,y,rfl,.inl (gQ.of e),B_ s⟩
  .rename_i w es;exact vq (r.obj i a _ x es) h
  .cases h
theorem x4 (j:Gl X "sorted") (y:X.mg "sorted"=none) (i:PE X e (tE X.K z)) (n:starEach [e] X.env=[(false,eval e X.env)]:=by rfl):PE X (.Call (.Name "sorted" p) [e] [] J) (tV X.K (oX z)):=
 (kz rG j y PyProof.Rows.boot_sorted (eW i g_ (by rw [n];rfl)) (by decide) (by decide) (by rw [n];rfl) rfl).imp' fun N H Q s=>by
  obtain⟨F,m,L,S,d,I,r,l,q,k⟩:=s;obtain⟨x,t,w,q⟩:=ah q;refine⟨F,m,L,S,x,t,r,l,w,fun v c P G D f A=>?_⟩;split at q
  .rename_i b g;unfold jx at q;split at q
   .rename_i n;cases o:lK b with
    | none=>rw [o] at q;cases q
    | some u=>rw [o] at q;cases q;obtain⟨a,E,rfl,K,B⟩:=AT f A g;exact⟨c,a,E,b,u,rfl,K,B,n,o,fun h M s C=>k _ _ P _ (D.trans (cq s).stp) (f.grow (cq s)) (.newLst s C)⟩
   .cases q
  .cases q
end
noncomputable def Lq (K:FG) (e:Bool) (a:Addr):It:=if e=true then B2 K a else II K a
inductive tIOI (K:FG) (en:Bool) (fe:EE) (σ:L2.St) (H:Hp) (R:It->Hp->Prop):Prop
 | mk (F:Aa) (m:List Addr) (L:Lc) (S:aD) (j:Nat) (S':aD) (ds:List D) (h0_:Rel K F H m S) (h1_:RL K F H m σ L) (h2_:fe L S=some (.ref j,S')) (h3_:S'[j]? = some (.lst ds)) (h4_:∀a F' m' H',Stp F m H F' m' H'->Rel K F' H' m' S'->m'[j]? = some a->R (Lq K en a) H'):tIOI K en fe σ H R
section
variable {X:Cx}{J:Pos}
theorem u0:c6 X (.type "range") (fun x H Q=>∃j:Int,x=[.int j]/\∀r,H r=none->Q (.ref r) (cc H r (.rng 0 j))):=by intro B s N H x n Q I r h;obtain⟨j,rfl,q⟩:=h;obtain⟨u,rfl,a⟩:=vals1 r;obtain⟨t,rfl⟩:=a;refine call_range_1 ?_;exact⟨.ref s.heap.objs.size,_,I.laid (o:=.rng 0 j) (fun b o e=>Heap.get?_push_of_some _ e) (Nat.le_refl _) ⟨_,_,_,Heap.get?_push_size _ rfl⟩,rfl,q _ (I.hok.fresh (Nat.le_refl _))⟩
theorem o7:∀{s:List d}{e:List l},s.length=e.length->(∀(i:Nat) x y,s[i]? = some x->e[i]? = some y->R x y)->Paired R s e
 | [],[],_,_=>.nil
 | [],_::_,h,_=>by simp at h
 | _::_,[],h,_=>by simp at h
 | x::s,y::e,h,k=>.cons (k 0 x y rfl rfl) (o7 (by simpa using h) fun i a b n f=>k (i+1) a b (by simpa using n) (by simpa using f))
theorem uF (h:ItemsOf (fun i v=>∃t,v=Value.int (0+i * 1) t) r n):aL ((List.range n).map fun (i:Nat)=>V.int (i:Int)) r.toList:=by
 obtain⟨z,f⟩:=h;refine o7 (by simp [z]) fun i x y a c=>?_;rw [List.getElem?_map] at a;cases e:(List.range n)[i]? with
 | none=>rw [e] at a;cases a
 | some k=>
  rw [e] at a;cases a;have b:k=i:=by have:=List.getElem?_eq_some_iff.mp e;obtain⟨m,s⟩:=this;simpa using s.symm
  subst b;obtain⟨t,rfl⟩:=f k y (by simpa using c);exact⟨t,by simp⟩
theorem tN (a:X.calm=true):c6 X (.type "list") (fun k H Q=>∃r j,k=[.ref r]/\H r=some (.rng 0 j)/\j.natAbs < 1000000/\∀l,H l=none->Q (.ref l) (cc H l (.lst ((List.range j.toNat).map fun (i:Nat)=>V.int (i:Int))))):=by
 intro B s N H k z Q I r h;obtain⟨d,j,rfl,p,y,q⟩:=h;obtain⟨u,rfl,w⟩:=vals1 r;cases w;obtain⟨t,u,v,o⟩:=I.hok d _ p;refine call_list_range (n:=j.toNat) (I.ok.hd a) o (small_one (by lia) (by lia) (by lia) (by lia)) (by rw [rangeSize_one];split <;> lia) (by lia) fun f g x c m e b=>?_
 exact⟨.ref s.heap.objs.size,_,I.laid (t':=g) m (Nat.le_refl _) (show ce X.prog X.w _ f _ (.lst _) from ⟨by rw [b8,List.length_range];exact aM (by lia:j.toNat≤1000000) (by decide),x.toList,c,uF b,by simpa using e⟩),rfl,q _ (I.hok.fresh (Nat.le_refl _))⟩
noncomputable def EQ (a:EV):EV:=fun L S=>aF (a L S) fun v h=>match v with
 | .int j=>if decide (j.natAbs < 1000000)=true then some (.lst (intsFrom 0 j.toNat),h) else none
 | _=>none
theorem si:∀s:List Nat,ci K F H (s.map fun (i:Nat)=>P.int (0+(i:Int))) (s.map fun (i:Nat)=>V.int (i:Int))
 | []=>rfl
 | i::s=>⟨_,_,rfl,by show V.int _=V.int _;rw [c8],si s⟩
theorem Ax (h:X.calm=true) (K:Gl X "list") (A:X.mg "list"=none) (g:Gl X "range") (s:X.mg "range"=none) (y:PE X a (tV X.K C)) (t:starEach [a] X.env=[(false,eval a X.env)])
  : PE X (.Call (.Name "list" u) [.Call (.Name "range" p2) [a] [] c2] [] c1) (tV X.K (EQ C)):=
 (lf (tN h) K A tY (eW (lf u0 g s boot_range (eW y g_ (by rw [t];rfl)) (by decide) (by decide) (by rw [t];rfl) rfl) g_ rfl) (by decide) (by decide) rfl rfl).imp' fun N H Q e=>by
  obtain⟨F,m,L,S,d,G,r,l,q,k⟩:=e;obtain⟨x,w,i,q⟩:=ah q;refine⟨F,m,L,S,x,w,r,l,i,fun v f B b E D u=>?_⟩;cases x with
  | int j=>
   dsimp only at q;split at q
   .rename_i o;have P:j.natAbs < 1000000:=of_decide_eq_true o;cases q;cases (show v=.int j from u);refine⟨j,rfl,fun p n=>⟨p,j,rfl,aE,P,fun z e=>?_⟩⟩;have c:Grow f b f (cc b p (.rng 0 j)):=bU n;exact k _ _ B _ (E.trans (c.stp.trans (cq e).stp)) ((D.grow c).grow (cq e)) (.newLst e (si _))
   .cases q
  | _=>cases q
end
section
variable {X:Cx}{J:Pos}
theorem wI {I:Program}{w:World}{A:Around}{E:VP}{s:Shared}{t l:Addr}{i:Array Value}{v u:Value}{lo x:Option Int}{Q:VP} (h:IsTup s.heap t i) (a:s.heap.IsSliceOf l v u .none) (p:IsPart v lo) (b:IsPart u x)
  (k:HT.ey i.size 0 lo=0) (f:HT.ey i.size i.size x=i.size) (q:Q (.ref t) s):wpAny (model I w) A (getItem (.ref t) (.ref l)) Q E s:=by
 have T:s.TypeIs (.ref l) "slice":=by obtain⟨o,e,n,_⟩:=a;exact⟨o,e,n⟩
 unfold getItem;try with_reducible refine wpAny_holding ?_
 first | refine wpAny_bind (wpAny_pure ?_) | skip
 refine wpAny_bind (wpAny_sequenceKey h.typeIs (by decide) ?_);refine wpAny_bind (wpAny_callSpecial?_slot (name:=Str.ofString "__getitem__") h.typeIs jY (wpAny_call_entry jY h.typeIs entry_tuple_getitem ?_ (args_tuple_getitem _ _)));show wpAny _ _ (Builtin.Tuple.tupleItemsOf (.ref t) >>= _) _ _ s;refine wpAny_bind (tupleItemsOf_ h (wpAny_bind (kn T ?_)));rw [if_pos (by decide)];refine wpAny_bind (HT.hX a p b ?_);rw [k,f];have y:((((0:Nat):Int) == 0 && (1:Int) == 1 && (i.size-0) == i.size)=true):=by simp
 show wpAny _ _ (if ((((0:Nat):Int) == 0 && (1:Int) == 1 && (i.size-0) == i.size)=true) then _ else _) _ _ s;rw [if_pos y];refine wpAny_bind (wpAny_bind (kn h.typeIs ?_));refine wpAny_pure ?_;rw [if_pos (by rfl)];first
  | exact wpAny_bind (wpAny_pure (wpAny_pure ⟨_,rfl,wpAny_pure q⟩))
  | exact wpAny_bind (wpAny_rule (wpAny_pure ⟨_,rfl,wpAny_pure q⟩))
  | exact wpAny_pure ⟨_,rfl,wpAny_pure q⟩
theorem yp:B1 X (fun x lo n H Q=>∃a e,x=.ref a/\kT X.K H a e/\HT.ey e.length 0 lo=0/\HT.ey e.length e.length n=e.length/\Q (.ref a) H):=by
 intro B s N H x v w g lo n d Q I m b p u h;obtain⟨a,e,rfl,c,k,f,q⟩:=h;cases m;obtain⟨i,r,t,_⟩:=I.tuple c;have l:i.toArray.size=e.length:=by rw [List.size_toArray];exact r.length.symm
 exact⟨"tuple",_,jY.lookup,t.typeIs,wI t b p u (by rw [l];exact k) (by rw [l];exact f) ⟨.ref a,H,I,rfl,q⟩⟩
theorem Db:B1 X (fun x lo e H Q=>∃z,x=.str z/\z.length≤sizeLine/\Q (.str (Txt.slice z lo e)) H):=by
 intro B s N H x v F K lo e S Q I y w g p h;obtain⟨z,rfl,m,q⟩:=h;obtain⟨t,rfl⟩:=y;refine⟨"str",_,PySem.F.slot_str_getitem.lookup,typeIs_str _ _ _,?_⟩;have f:∀lo e:Option Int,Q (.str (Txt.slice z lo e)) H->∀a k,EP X B N Q (.str (Txt.slice z lo e) a) { s with toks:=k }:=fun lo e q a k=>⟨.str _,H,I.tok _,⟨a,rfl⟩,q⟩
 obtain⟨o,n,b,c⟩:=w;cases g with
 | none=>
  cases p with
  | none=>exact pR (l:=none) (u:=none) (st:=none) ⟨o,n,b,c⟩ rfl (my ⟨aM (Txt.slice_le z _ _) m,fun a k=>f _ _ q a k⟩)
  | int j r=>exact pR (l:=none) (u:=some (j,r)) (st:=none) ⟨o,n,b,c⟩ rfl (my ⟨aM (Txt.slice_le z _ _) m,fun a k=>f _ _ q a k⟩)
 | int i d=>
  cases p with
  | none=>exact pR (l:=some (i,d)) (u:=none) (st:=none) ⟨o,n,b,c⟩ rfl (my ⟨aM (Txt.slice_le z _ _) m,fun a k=>f _ _ q a k⟩)
  | int j r=>exact pR (l:=some (i,d)) (u:=some (j,r)) (st:=none) ⟨o,n,b,c⟩ rfl (my ⟨aM (Txt.slice_le z _ _) m,fun a k=>f _ _ q a k⟩)
noncomputable def zV:P->Option Int->Option Int->Option P
 | .str x,lo,h=>if fZ x.length=true then some (.str (Txt.slice x lo h)) else none
 | .tup s,lo,h=>some (.tup (cut s lo h))
 | x,lo,h=>LZ x lo h
noncomputable def gb (a:EV) (lo n:EO):EV:=fun L S=>aF (a L S) fun x h=>aF (lo L h) fun i e=>aF (n L e) fun j s=>(zV x i j).map fun v=>(v,s)
theorem I0 {e:Expr}{lo G:Option Expr}{C:EV}{E D:EO}{J p2:Pos} (W:PE X e (tV X.K C)) (Z:PO X lo (tO X.K E)) (Y:PO X G (tO X.K D)):PE X (.Subscript e (.Slice lo G none p2) J) (tV X.K (gb C E D)):=
 (yO ((AQ.or (C_.or yp)).or Db) W Z Y).imp' fun N H Q hz=>by
  obtain⟨F,m,L,S,d,S',r,l,q,k⟩:=hz;obtain⟨x,A,T,q⟩:=ah q;obtain⟨i,B,U,q⟩:=ah q;obtain⟨j,R,V,q⟩:=ah q;refine⟨F,m,L,S,x,A,r,l,T,fun v M m1 H1 y r1 p1=>?_⟩;refine⟨M,m1,L,A,i,B,r1,l.mono y,U,fun O m2 H2 o r2=>?_⟩;refine⟨O,m2,L,B,j,R,r2,(l.mono y).mono o,V,fun K f P I b=>?_⟩;have u:=RP.mono I (RP.mono o p1);have c:=y.trans (o.trans I);cases x with
  | lst w=>cases q;obtain⟨a,s,rfl,t,n⟩:=u;exact .inl (.inl ⟨a,s,rfl,t.sq,fun p h=>k _ _ f _ (c.trans (cq h).stp) (b.grow (cq h)) (.newLst h (n.cut i j))⟩)
  | ro w=>cases q;obtain⟨a,s,rfl,t,n⟩:=u;exact .inl (.inl ⟨a,s,rfl,t.sq,fun p h=>k _ _ f _ (c.trans (cq h).stp) (b.grow (cq h)) (.newLst h (n.cut i j))⟩)
  | tup w=>
   obtain⟨a,s,rfl,t,n⟩:=u;cases q;by_cases hw:HT.ey s.length 0 i=0/\HT.ey s.length s.length j=s.length
   .have g:cut w i j=w:=by
     unfold cut;rw [n.length,hw.1,hw.2,mB,Nat.sub_zero,<- n.length,pL]
    rw [g] at k;exact .inl (.inr (.inr ⟨a,s,rfl,t.sq,hw.1,hw.2,k _ K f P c b ⟨a,s,rfl,t,n⟩⟩))
   .exact .inl (.inr (.inl ⟨a,s,rfl,t.sq,hw,fun p h=>k _ _ f _ (c.trans (bU h).stp) (b.grow (bU h)) (.newTup h (n.cut i j))⟩))
  | str z=>
   cases (show v=.str z from u);simp only [zV] at q;split at q
   .rename_i g;cases q;exact .inr ⟨z,rfl,gn g,k _ K f P c b rfl⟩
   .cases q
  | _=>cases q
noncomputable def bB:List P->Option P
 | [.str x]=>if x.length≤640 then (PySem.intText? x).map .int else none
 | s=>iZ s
theorem Ac:c6 X (.type "int") (rC X.K bB):=by
 intro B s N H v b Q I r h;obtain⟨F,a,d,c,f,q,k⟩:=h;have o:iZ a=some d->wpAny (model X.prog X.w) X.A (call (.type "int") b) (EP X B N Q) X.xe s:=fun q=>BU B s N H v b Q I r ⟨F,a,d,c,f,q,k⟩
 unfold bB at q;split at q
 .rename_i x;split at q
  .rename_i l;cases e:PySem.intText? x with
   | none=>rw [e] at q;cases q
   | some n=>rw [e] at q;cases q;obtain⟨y,rfl,p⟩:=qt f;cases (show y=.str x from p);obtain⟨u,rfl,m⟩:=vals1 r;obtain⟨t,rfl⟩:=m;exact PySem.W.KIN.call_text e l ⟨.int n,H,I.tok _,⟨_,rfl⟩,k _ F H .refl rfl⟩
  .cases q
 .exact o q
variable {e:Expr}{es:Ab}{fs:fS}{p:Pos}
theorem CJ (g:Gl X "int") (m:X.mg "int"=none) (a:PA X (e::es) (nh X.K fs)) (x:starEach (e::es) X.env=(false,eval e X.env)::starEach es X.env) (h:(backTo J (starEach es X.env)).any (·.1)=false) :
  PE X (.Call (.Name "int" p) (e::es) [] J) (tV X.K (af bB fs)):=ue Ac g m PyProof.Rows.boot_int a (by decide) (by decide) x h
inductive PEs (X:Cx):Ab->List EV->Prop
 | nil:PEs X [] []
 | cons {e es f fs}:PE X e (tV X.K f)->PEs X es fs->PEs X (e::es) (f::fs)
noncomputable def vg (a b c:EV):EV:=fun L S=>aF (a L S) fun d h=>aF (b L h) fun y x=>aF (c L x) fun z e=>match d with
 | .dct s O=>match cd y with
  | some k=>some ((bM k s O).getD z,e)
  | none=>none
 | _=>none
theorem oU:∀{k:List (bz×V)}{d:List P},ci K F H d (k.map (·.2))->bM u (k.map (·.1)) d=none->fL k u=none
 | [],d,r,h=>rfl
 | (s,v)::k,[],r,h=>by have:=r.length;simp at this
 | (s,v)::k,b::d,r,h=>by
  obtain⟨x,m,e,p,n⟩:=r;rw [List.map_cons] at e;injection e with c f;simp only [List.map_cons,bM] at h;by_cases a:s=u
  .rw [if_pos a] at h;cases h
  .rw [if_neg a] at h;rw [<- f] at n;rw [fK (p:=(s,v)) a];exact oU n h
theorem CK (hu:X.A.units+1 < cLine) (ho:PE X o (tV X.K T)) (ha:PE X a (tV X.K C)) (hb:PE X b (tV X.K U)) (m:M2 X o "get" ap a b cp):PE X (.Call (.Attribute o "get" ap) [a,b] [] cp) (tV X.K (vg T C U)):=
 (yW hu ho ha hb m).imp' fun N H Q hz=>by
  obtain⟨F,m,L,S,d,S',r,l,q,k⟩:=hz;obtain⟨x,P,R,q⟩:=ah q;obtain⟨y,A,V,q⟩:=ah q;obtain⟨z,M,W,q⟩:=ah q;refine⟨F,m,L,S,x,P,r,l,R,fun v I m1 H1 j r1 p1=>?_⟩;cases x with
  | dct ks O=>
   obtain⟨a,s,rfl,g,B,Y,ra⟩:=id p1;refine⟨a,rfl,.inl ⟨s,.inl B⟩,?_⟩;refine⟨I,m1,L,P,y,A,r1,l.mono j,V,fun vy J m2 H2 f r2 p2=>?_⟩;refine⟨J,m2,L,A,z,M,r2,(l.mono j).mono f,W,fun vz K D t c E p3=>?_⟩;have h:t a=some (.dK s):=(f.trans c).frk _ _ g B;have e:=ci.mono c (ci.mono f ra);have py:=RP.mono c p2;dsimp only at q;split at q
   .rename_i i p;cases q;have u:=gJ p py;subst u Y;have G:=j.trans (f.trans c);cases n:bM i (s.map (·.1)) O with
    | none=>have hm:=oU e n;refine⟨none,by rw [<- hm];exact iX.k h,?_⟩;rw [n] at k;exact k vz K D t G E p3
    | some w=>obtain⟨v,Z,h2⟩:=k7 e n;refine⟨some v,by rw [<- Z];exact iX.k h,?_⟩;rw [n] at k;exact k v K D t G E h2
   .cases q
  | _=>cases q
noncomputable def HN (w:World):List DictEntry->List (Str×P)->Prop
 | [],[]=>True
 | e::es,(k,p)::r=>(∃t,e.key=.str k t)/\e.hash=hashStr w k/\(∃v,RelV v e.val/\∀K F H,RP K F H p v)/\HN w es r
 | _,_=>False
noncomputable def Km (w:World) (K:FG) (m:SV) (x:Str) (k:List (Str×P)):Prop:=
 ∃a o es e,m x=some (.ref a)/\K.lookup a=some o/\o.ExactDict/\o.data=.dict es e/\HN w es.toList k/\(k.map (·.1)).Nodup
end
noncomputable def FK:List bz->List P->Option (List (Str×P))
 | [],[]=>some []
 | .inr k::s,v::O=>(FK s O).map fun r=>(k,v)::r
 | _,_=>none
noncomputable def zw:P->Bool
 | .dct _ _=>true
 | _=>false
noncomputable def kR (w:World) (K:FG) (m:SV) (x:Str) (v:P):Prop:=(zw v=false->u6 K m x v)/\∀s O,v=.dct s O->∃k,FK s O=some k/\Km w K m x k
variable {x:Str}
theorem kR.plain (h:u6 K r x v) (a:zw v=false):kR w K r x v:=⟨fun _=>h,fun k O e=>by subst e;cases a⟩
section
variable {X:Cx}
theorem pB:∀{s:List Bool}{u:LV},aL (s.map V.bl) u->LSm.BoolsAre u s
 | [],u,r=>by obtain rfl:u=[]:=iB (by simpa using r.length.symm);exact .nil
 | b::s,u,r=>by
  cases r with
  | cons q t=>cases (show _=Value.bool b from q);exact .cons b (pB t)
theorem z3 (c:X.calm=true):c6 X (.builtin "any") (fun a H Q=>∃(p:Addr) (b:List Bool),a=[.ref p]/\gQ X.K H p (b.map V.bl)/\Q (.bl (b.any id)) H):=by intro B s N H a d Q I r h;obtain⟨p,b,rfl,n,q⟩:=h;obtain⟨u,rfl,f⟩:=vals1 r;cases f;obtain⟨i,k,l,z⟩:=I.list n;obtain⟨m,F⟩:=I.fr;exact LSm.any_bools F (sw (g:=X.base)) (I.ok.hd c) l.isList (pB k) fun t v x e=>⟨.bl (b.any id),H,lm I F.ns x.ns (nC I.bk x e),rfl,q⟩
noncomputable def wt:List P->Option (List Bool)
 | []=>some []
 | .bl b::r=>(wt r).map (b::·)
 | _=>none
noncomputable def wq:List P->Option P
 | [.lst x]=>(wt x).map fun b=>.bl (b.any id)
 | _=>none
theorem wr:∀{a:List P}{s:List Bool}{x:List V},wt a=some s->ci K F H a x->x=s.map V.bl
 | [],s,x,h,r=>by cases h;exact iB r.length.symm
 | .bl b::a,s,x,h,r=>by simp only [wt] at h;obtain⟨n,e,rfl⟩:=jg.mp h;obtain⟨y,f,rfl,p,k⟩:=r;cases (show y=.bl b from p);rw [wr e k];rfl
theorem callAny (c:X.calm=true):c6 X (.builtin "any") (rC X.K wq):=by
 intro B s N H w u Q I r h;obtain⟨F,m,d,v,f,q,k⟩:=h;unfold wq at q;split at q
 .obtain⟨b,e,rfl⟩:=jg.mp q;obtain⟨x,rfl,p⟩:=qt f;obtain⟨a,y,rfl,t,n⟩:=p;exact z3 c B s N H _ u Q I r ⟨a,b,rfl,by rw [<- wr e n];exact t.sq,k _ F H .refl rfl⟩
 .cases q
variable {e:Expr}{es:Ab}{fs:fS}{p J:Pos}
theorem Fo (g:Gl X "any") (m:X.mg "any"=none) (a:PA X (e::es) (nh X.K fs)) (c:X.calm=true) (x:starEach (e::es) X.env=(false,eval e X.env)::starEach es X.env) (h:(backTo J (starEach es X.env)).any (·.1)=false) :
  PE X (.Call (.Name "any" p) (e::es) [] J) (tV X.K (af wq fs)):=x6 (callAny c) g m PyProof.Rows.boot_any a (by decide) (by decide) x h
end
end Ev
namespace Ev
open PySem PySem.Spec PyProof.Rows L2
theorem sR (f:Nat->β->Sem (ForInStep β)) (I:Nat->β->Shared->Prop) (Q:β->Shared->Prop) (k:Nat)
  (turn:∀i b s,i < k->I i b s->wpAny M A (f i b) (fun r s'=>match r with | .yield b'=>I (i+1) b' s' | .done b'=>Q b' s') E s)
  (fin:∀b s,I k b s->Q b s) (b:β) (h:I 0 b s):wpAny M A (forIn [0:k] b f) Q E s:=by
 rw [Std.Legacy.Range.forIn_eq_forIn_range'];refine wpAny_forIn_list f (fun ck b s=>∃i,ck=List.range' i (k-i)/\i≤k/\I i b s) Q (fun x ck b s ⟨i,e,hi,hI⟩=>?_) (fun b s ⟨i,e,hi,hI⟩=>?_) _ b ⟨0,by simp [Std.Legacy.Range.size],Nat.zero_le _,h⟩
 .obtain⟨m,hm⟩:∃m,k-i=m+1:=by
   cases q:k-i with
   | zero=>rw [q] at e;simp at e
   | succ m=>exact⟨m,rfl⟩
  rw [hm,p0] at e;injection e with e1 e2;subst e1;refine wpAny_mono (turn x b s (by lia) hI) (fun r s' hr=>?_) fun _ _ z=>z;cases r with
  | done b'=>exact hr
  | yield b'=>exact⟨x+1,by rw [e2];congr 1;lia,by lia,hr⟩
 .have:k-i=0:=by
   cases q:k-i with
   | zero=>rfl
   | succ m=>rw [q,p0] at e;cases e
  have:i=k:=by lia
  subst this;exact fin b s hI
section
open PySem.SeqAt PySem.MeetsSeq
open PySem.AutoSeq1 (wpAny_loadPart')
theorem wJ (l:Addr) (items:Array Value) (n:Nat) (dd:Option Addr) (sl:Array (OV)) (x:Value) (e:Value->Bool) (j:Nat) (hj:j < items.size)
  (hit:e items[j]=true) (hno:∀m (hm:m < items.size),m < j->e items[m]=false) :
  Meets (Builtin.«tuple.index» ⟨[.ref l,x],[]⟩)
   (fun A R s=>s.heap.get? l=some { cls:=.type "tuple",dict:=dd,data:=.seq items n,slots:=sl }/\(∀y,y ∈ items->EqAt A.in1 s y x (e y))/\R (.ok (.ret (.int j s.toks))) { s with toks:=s.toks+1 }):=
 .of_wp fun prog w A R s h=>by
  obtain⟨hp,g,d,tk,os⟩:=s;obtain⟨hl,he,h⟩:=h
  wp_walk using j0 hl,sR _ (fun i b s'=>i≤j/\b.1=none/\s'=⟨hp,g,d,tk,os⟩) _
  case turn=>
   rintro i b s' hi ⟨hij,hb,rfl⟩;have hi':i < items.size:=by lia
   rw [ub hi'];refine wpAny_bind (he _ (Array.getElem_mem hi') prog w _ _ ?_);by_cases hc:i=j
   .subst hc;rw [hit]
    wp_walk
    exact⟨_,rfl,h⟩
   .rw [hno i hi' (by lia)]
    wp_walk
    exact⟨by lia,rfl,rfl⟩
  case fin=>rintro b s' ⟨hij,_,_⟩;exact absurd hij (by lia)
  case h=>exact⟨Nat.zero_le _,rfl,rfl⟩
end
noncomputable def gP (ps:List P) (y:P):Option Nat:=if (ps.all (bR 19) && bR 19 y)=true then (lg ps).findIdx? fun z=>PyData.eqv z (pd y) else none
noncomputable def l8 (Y v:EV):EV:=fun L S=>aF (Y L S) fun h a=>match h with
 | .lst ps=>aF (v L a) fun y x=>(gP ps y).map fun (i:Nat)=>(.int (i:Int),x)
 | .tup ps=>aF (v L a) fun y x=>(gP ps y).map fun (i:Nat)=>(.int (i:Int),x)
 | _=>none
section
variable {X:Cx}{pins:PN}{σ:L2.St}{H:Hp}{s:Shared}{F:Aa}{ps:List P}{y:P}{vy:V}{u:Value}{i:Nat}{Q:VK}{a:Addr}
theorem qx:∀qs:List P,(lg qs).length=qs.length
 | []=>rfl
 | q::qs=>by simp [lg,qx qs]
theorem zB (o:X.A.units+64 < cLine) (I:Inv X pins σ H s) (d:RP X.K F H y vy) (g:RelV vy u) (e:gP ps y=some i) {v:Array Value}{f:List Addr} (k:ReadsAll s.heap v.toList (lg ps) f) :
  ∃t:i < v.size,PyData.eqv (SeqAt.readOf s.heap v[i]) (pd y)=true/\(∀m (x:m < v.size),m < i->PyData.eqv (SeqAt.readOf s.heap v[m]) (pd y)=false)/\v.size=ps.length /\
   ∀z,z ∈ v->SeqAt.EqAt X.A.in1 s z u (PyData.eqv (SeqAt.readOf s.heap z) (pd y)):=by
 unfold gP at e;split at e;case isFalse=>cases e
 rename_i c;rw [Bool.and_eq_true] at c;obtain⟨j,w⟩:=hY I 19 d g c.2;have l:=Cf c.1;have q:=eX 19 _ c.2;obtain⟨t,b,r⟩:=u9.mp e;have n:=SeqAt.readsAll_map _ _ _ l.1 k;have h:v.size=(lg ps).length:=by rw [<- n];simp
 have a:∀(m:Nat) (x:m < v.size),SeqAt.readOf s.heap v[m]=(lg ps)[m]'(h ▸ x):=fun m x=>by
  have:(v.toList.map (SeqAt.readOf s.heap))[m]? = (lg ps)[m]?:=by rw [n]
  rw [List.getElem?_map,Array.getElem?_toList,ub x,cR (h ▸ x)] at this;simpa using this
 refine⟨by lia,?_,fun m x p=>?_,by rw [h,qx],SeqAt.items_eqAt k w l.1 q.1 (by lia)⟩
 .rw [a];exact b
 .rw [a];simpa using r m p
theorem zA (e:gP ps y=some i):ps.all (bR 19)=true:=by
 unfold gP at e;split at e
 .rename_i h;rw [Bool.and_eq_true] at h;exact h.1
 .cases e
theorem uY (P:X.A.units+64 < cLine) (I:Inv X pins σ H s) (p:RP X.K F H (.lst ps) (.ref a)) (D:RP X.K F H y vy) (G:RelV vy u) (e:gP ps y=some i) (q:Q (.int i) H) :
  wpAny (model X.prog X.w) X.A (call (.builtin "list.index") [.ref a,u]) (EP X pins σ Q) X.xe s:=by
 have S:=zA e;obtain⟨M,b⟩:=hY I 20 p (show RelV (.ref a) (.ref a) from rfl) (by simpa [bR] using S);rw [pd] at b;cases b with
 | @list l o J n _ c x k f w=>
  obtain⟨j,t,v,R,d⟩:=zB P I D G e w;obtain⟨V,B,C,h⟩:=o;dsimp only at k f;subst k f;have O:ps.length≤sizeLine:=by obtain⟨L,W,m,K,E⟩:=p;cases m;obtain⟨z,A,U,r,N,_⟩:=I.lstM K.2;have T:=E.length;lia
  have g:sizeLine < 2 ^ 63:=by decide
  exact call_meets PySem.F.slot_list_index ⟨_,x,rfl⟩ PySem.F.entry_list_index (PySem.F.args_list_index_2 _ _) (SeqAt.list_indexAt a J n B h u _ i j (by lia) t v) ⟨x,d,⟨.int i,H,I.tok _,⟨_,rfl⟩,q⟩⟩
theorem tL (hu:X.A.units+64 < cLine) (I:Inv X pins σ H s) (px:RP X.K F H (.tup ps) (.ref a)) (py:RP X.K F H y vy) (ru:RelV vy u) (e:gP ps y=some i) (q:Q (.int i) H) :
  wpAny (model X.prog X.w) X.A (call (.builtin "tuple.index") [.ref a,u]) (EP X pins σ Q) X.xe s:=by
 have ho:=zA e;obtain⟨as,ra⟩:=hY I 20 px (show RelV (.ref a) (.ref a) from rfl) (by simpa [bR] using ho);rw [pd] at ra;cases ra with
 | @tuple l o vs n _ as' h1 h2 h3 h4=>obtain⟨hi,e1,e2,hz,eq⟩:=zB hu I py ru e h4;obtain⟨oc,od,odt,osl⟩:=o;dsimp only at h2 h3;subst h2 h3;exact call_meets PySem.F.slot_tuple_index ⟨_,h1,rfl⟩ PySem.F.entry_tuple_index (PySem.F.args_tuple_index_2 _ _) (wJ a vs n od osl u _ i hi e1 e2) ⟨h1,eq,⟨.int i,H,I.tok _,⟨_,rfl⟩,q⟩⟩
theorem CM (hu:X.A.units+64 < cLine) (ho:PE X o (tV X.K T)) (he:PE X e (tV X.K fe)) (hs:starEach [e] X.env=[(false,eval e X.env)])
  (w:attributeBase o "index" X.env (eval o X.env)=eval o X.env) (j:(M.endLine == g.line)=true):PE X (.Call (.Attribute o "index" M) [e] [] g) (tV X.K (l8 T fe)):=by
 intro pins s σ H Q I ⟨F,m,L,S,d,Z,r,l,q,k⟩;obtain⟨x,U,e1,q⟩:=ah q;refine wpAny_Call_method_late w (by rw [hs];rfl) j rfl (cK (ho pins s σ H (fun v c=>∃f K,Stp F m H f K c/\Rel X.K f c K U/\RP X.K f c x v) I ⟨F,m,L,S,x,U,r,l,e1,fun v f K c W r1 B=>⟨f,K,W,r1,B⟩⟩) fun u W hz=>?_);obtain⟨v,c,Y,ru,f,K,O,r1,B⟩:=hz;have t:∀(id:String) (ps:List P),aF (fe L U) (fun y S2=>(gP ps y).map fun (i:Nat)=>((.int (i:Int):P),S2))=some (d,Z) ->
   (∀(s:Shared) (h:Hp) (n:Aa) (y:P) (vy:V) (C:Value) (i:Nat),Inv X pins σ h s->(∀p,RP X.K f c p v->RP X.K n h p v)->RP X.K n h y vy->RelV vy C->gP ps y=some i->Q (.int i) h->wpAny (model X.prog X.w) X.A (call (.builtin id) [u,C]) (EP X pins σ Q) X.xe s) ->
   wpAny (model X.prog X.w) X.A (callWith g (.builtin id) [u] (backTo g (starEach [e] X.env)) []) (EP X pins σ Q) X.xe W:=by
  intro id ps q hc;obtain⟨y,S2,e2,q⟩:=ah q;obtain⟨i,E,q⟩:=jg.mp q;cases q;rw [hs];refine Calls.callWith_builtin rfl (Calls.evalArgs_plain (Calls.spliced_cons (cK (he pins W σ c (fun vy h=>∃n A,Stp f K c n A h/\Rel X.K n h A Z/\RP X.K n h y vy) Y ⟨f,K,L,U,y,Z,r1,l.mono O,e2,fun v n A h s2 r2 G=>⟨n,A,s2,r2,G⟩⟩) fun C s2 ⟨vy,h,D,ruy,n,A,R,r2,G⟩=>j1 ?_)));exact hc s2 h n y vy C i D (fun p N=>RP.mono R N) G ruy E (k _ n A h (O.trans R) r2 rfl)
 cases x with
 | lst ps=>obtain⟨a,xs,rfl,hq,rp⟩:=id B;cases (show u=Value.ref a from ru);obtain⟨z,its,n',rr,hl,J⟩:=Y.lstM hq.2;exact⟨"list","list.index",t_,PySem.F.slot_list_index,PySem.F.type_list_index,⟨_,J,rfl⟩,fun b eb=>by cases eb;exact⟨_,J,rfl⟩,t _ ps q fun s h n y vy C i D N py ry E q=>uY hu D (N _ B) py ry E q⟩
 | tup ps=>obtain⟨a,xs,rfl,hq,rp⟩:=id B;cases (show u=Value.ref a from ru);obtain⟨its,rr,o,J,⟨ec,n',ed⟩,en⟩:=Y.tupleN hq.sq;exact⟨"tuple","tuple.index",PySem.F.plainAttrs_tuple,PySem.F.slot_tuple_index,PySem.F.type_tuple_index,⟨_,J,ec⟩,fun b eb=>by cases eb;exact⟨_,J,en⟩,t _ ps q fun s h n y vy C i D N py ry E q=>tL hu D (N _ B) py ry E q⟩
 | _=>cases q
end
variable {L:Type}
noncomputable def bW [DecidableEq L] (k:L):List L->List D->Option D
 | h::s,v::x=>if h=k then some v else bW k s x
 | _,_=>none
noncomputable def cI [DecidableEq L] (k:L) (v:D):List L->List D->List L×List D
 | h::s,w::x=>if h=k then (h::s,v::x) else (h::(cI k v s x).1,w::(cI k v s x).2)
 | _,_=>([k],[v])
noncomputable def cn:List P->Option (List bz)
 | []=>some []
 | p::r=>(cd p).bind fun k=>(cn r).map fun s=>k::s
noncomputable def iI (d:D) (S:aD):Option (Nat×List (List bz)×List D):=match d with
 | .ref i=>match S[i]? with
  | some (.dtt k v)=>some (i,k,v)
  | _=>none
 | _=>none
theorem mH (h:iI d S=some (i,k,n)):d=.ref i/\S[i]? = some (.dtt k n):=by
 unfold iI at h;split at h
 .split at h
  .rename_i e;cases h;exact⟨rfl,e⟩
  .cases h
 .cases h
section
variable {K:FG}{F:Aa}{H:Hp}{m:List Addr}
theorem hZ:∀{ps:List P}{s:List bz}{a:List V},cn ps=some s->ci K F H ps a->a=s.map kV
 | [],s,a,h,r=>by cases h;exact r
 | p::ps,s,a,h,r=>by
  obtain⟨x,m,rfl,b,c⟩:=r;unfold cn at h;cases e:cd p with
  | none=>rw [e] at h;cases h
  | some k=>
   rw [e] at h;cases n:cn ps with
   | none=>rw [n] at h;cases h
   | some f=>rw [n] at h;cases h;rw [List.map_cons,gJ e b,hZ n c]
theorem iD [DecidableEq L]:∀{C:List (L×V)}{s:List D},dj K F H m s (C.map (·.2)) ->
  match bW k (C.map (·.1)) s with | some d=>∃v,fL C k=some v/\RD K F H m d v | none=>fL C k=none
 | [],s,r=>by have:s=[]:=iB r.length;subst this;rfl
 | (a,v)::C,[],r=>by have:=r.length;simp at this
 | (a,v)::C,d::s,r=>by
  obtain⟨x,c,e,p,n⟩:=r;rw [List.map_cons] at e;injection e with f b;rw [<- b] at n;simp only [List.map_cons,bW];by_cases h:a=k
  .rw [if_pos h];exact⟨v,gE (p:=(a,v)) h,by rw [show v=x from f];exact p⟩
  .rw [if_neg h,fK (p:=(a,v)) h];exact iD n
theorem k9 [DecidableEq L] (b:RD K F H m y u):∀{C:List (L×V)}{s:List D},(C.map (·.1)).Nodup->dj K F H m s (C.map (·.2)) ->
  (L2.putK C k u).map (·.1)=(cI k y (C.map (·.1)) s).1/\dj K F H m (cI k y (C.map (·.1)) s).2 ((L2.putK C k u).map (·.2))
 | [],s,_,r=>by have:s=[]:=iB r.length;subst this;exact⟨rfl,u,[],rfl,b,rfl⟩
 | (h,w)::C,[],_,r=>by have:=r.length;simp at this
 | (h,w)::C,d::s,g,r=>by
  obtain⟨x,E,e,B,G⟩:=r;rw [List.map_cons] at e g;injection e with i j;subst i;subst j;obtain⟨t,p⟩:=List.nodup_cons.mp g;simp only [List.map_cons,cI];by_cases a:h=k
  .subst a;rw [if_pos rfl];have same:∀l:List (L×V),h ∉ l.map (·.1)->l.map (fun v=>if v.1=h then (v.1,u) else v)=l:=by
    intro l;induction l with
    | nil=>intro _;rfl
    | cons q l A=>
     intro f;rw [List.map_cons] at f;have o:¬q.1=h:=fun z=>f (by rw [<- z];exact List.mem_cons_self)
     rw [List.map_cons,if_neg o,A fun z=>f (aY _ z)]
   have n:L2.putK ((h,w)::C) h u=(h,u)::C:=by unfold L2.putK;rw [if_pos (by simp),List.map_cons,if_pos rfl,same C t]
   rw [n];exact⟨rfl,u,_,rfl,b,G⟩
  .rw [if_neg a];obtain⟨S,P⟩:=k9 (k:=k) b p G;have n:L2.putK ((h,w)::C) k u=(h,w)::L2.putK C k u:=by
    unfold L2.putK;rw [gB,bq (show ¬(h,w).1=k from a),Bool.false_or];by_cases c:(C.any fun v=>decide (v.1=k))=true
    .rw [if_pos c,if_pos c,List.map_cons,if_neg (show ¬(h,w).1=k from a)]
    .rw [if_neg c,if_neg c];rfl
   rw [n,List.map_cons,List.map_cons,S];exact⟨rfl,w,_,rfl,B,P⟩
end
section
variable {X:Cx}{O G:Pos}{o c:Expr}{N:Ab}{T:EE}{fs:fS}{fv:EV}
noncomputable def qQ:EE:=fun _ S=>some (.ref S.length,S++[.dtt [] []])
theorem CO:PE X (.Dict [] [] O) (tE X.K qQ):=yU.imp' fun σ H Q z=>by obtain⟨F,m,L,S,d,x,r,l,q,k⟩:=z;cases q;intro p h;refine k (.ref p) F (m++[p]) _ (gg h) (r.own h ⟨[],aE,rfl,rfl⟩) ⟨p,rfl,?_⟩;rw [<- r.len,fV (Nat.le_refl _)];simp
noncomputable def uP (o:EE) (k:fS):EE:=fun L S=>aF (o L S) fun d x=>aF (k L x) fun ps h=>match iI d h,cn ps with
 | some (_,s,v),some B=>if few ps=true then (bW B s v).map fun z=>(z,h) else none
 | _,_=>none
theorem By (m:X.A.units+1 < cLine):Ap X (fun x y H Q=>∃a v,x=.ref a/\iX H a y (some v)/\(∃C,H a=some (.dT C))/\Q v H):=by intro c l pins s σ H x y v u Q I t p h b;obtain⟨a,w,rfl,g,⟨C,f⟩,q⟩:=h;cases t;obtain⟨_,_,_,_,o,_,_,e,k,_⟩:=I.hok a _ f;exact tail_any ⟨o,e,k.1⟩ slot_dict_getitem.lookup (pj m I g p fun i d n r=>⟨w,H,n,r,q⟩) b
theorem Je {J} (hu:X.A.units+1 < cLine) (ho:PE X o (tE X.K T)) (hk:PA X N (nh X.K fs)) (hs:kQ (.Tuple N J G)):PE X (.Subscript o (.Tuple N J G) O) (tE X.K (uP T fs)):=
 (yR (By hu) ho (qv hk) hs).imp' fun σ H Q hz=>by
  obtain⟨F,m,L,S,d,S',r,l,q,k⟩:=hz;obtain⟨x,y,V,q⟩:=ah q;obtain⟨ps,K,W,q⟩:=ah q;refine⟨F,m,L,S,x,y,r,l,V,fun v R m1 H1 E r1 p1=>?_⟩;refine⟨R,m1,L,y,ps,K,r1,l.mono E,W,fun M i m2 U I D G=>?_⟩;cases s:iI x K with
  | none=>rw [s] at q;cases q
  | some t=>
   obtain⟨j,ks,vs⟩:=t;rw [s] at q;cases h:cn ps with
   | none=>rw [h] at q;cases q
   | some B=>
    rw [h] at q;dsimp only at q;split at q
    .rename_i hf;obtain⟨z,Y,q⟩:=jg.mp q;cases q;obtain⟨rfl,n⟩:=mH s;obtain⟨a,rfl,hm⟩:=RD.mono I p1;obtain⟨C,f,p,rs⟩:=D.obj j a _ hm n;subst p;have P:=iD (k:=B) rs;rw [Y] at P;obtain⟨w,Z,u⟩:=P;refine⟨by rw [<- G.length];exact j8 hf,fun b A=>?_⟩;have c:a≠b:=fun z=>by rw [z,A] at f;cases f
     have e:cc U b (.tup M) a=some (.dT C):=by rw [am c];exact f
     have g:=bU (F:=i) (o:=.tup M) A;rw [hZ h G] at e g ⊢;refine⟨a,w,rfl,by rw [<- Z];exact iX.t e aE,⟨C,e⟩,?_⟩;exact k w i m2 _ (E.trans (I.trans g.stp)) (D.grow g) (RD.mono g.stp u)
    .cases q
noncomputable def sY (o:EE) (k:fS):EE:=fun L S=>aF (o L S) fun d h=>match iI d h with
 | none=>none
 | some _=>aF (k L h) fun ps x=>match iI d x,cn ps with
  | some (_,s,v),some B=>if few ps=true then some ((bW B s v).getD (.p .non),x) else none
  | _,_=>none
theorem Fu {J} (hu:X.A.units+1 < cLine) (ho:PE X o (tE X.K T)) (hk:PA X N (nh X.K fs)) (E:M1 X o "get" ap (.Tuple N J G) cp) :
  PE X (.Call (.Attribute o "get" ap) [.Tuple N J G] [] cp) (tE X.K (sY T fs)):=
 (yX hu ho (qv hk) E).imp' fun σ H Q hz=>by
  obtain⟨F,m,L,S,d,S',r,l,q,k⟩:=hz;obtain⟨x,c,e1,q⟩:=ah q;refine⟨F,m,L,S,x,c,r,l,e1,fun v F1 m1 H1 R r1 p1=>?_⟩;cases e:iI x c with
  | none=>rw [e] at q;cases q
  | some t1=>
   obtain⟨j,ks1,vs1⟩:=t1;rw [e] at q;dsimp only at q;obtain⟨ps,V,e2,q⟩:=ah q;obtain⟨rfl,i⟩:=mH e;obtain⟨a,rfl,hm⟩:=id p1;obtain⟨s,P,_,_⟩:=r1.obj j a _ hm i;refine⟨a,rfl,.inr ⟨s,.inl P⟩,?_⟩;refine⟨F1,m1,L,c,ps,V,r1,l.mono R,e2,fun us f Z H2 U M G=>?_⟩;cases u:iI (.ref j) V with
   | none=>rw [u] at q;cases q
   | some t=>
    obtain⟨j2,ks,vs⟩:=t;rw [u] at q;cases p:cn ps with
    | none=>rw [p] at q;cases q
    | some B=>
     rw [p] at q;dsimp only at q;split at q
     .rename_i hf;cases q;obtain⟨h,y⟩:=mH u;cases h;obtain⟨a',e4,I⟩:=RD.mono U p1;cases e4;obtain⟨C,K,D,rs⟩:=M.obj j a _ I y;subst D;have n:=iD (k:=B) rs;refine⟨by rw [<- G.length];exact j8 hf,fun b Y=>?_⟩;have A:a≠b:=fun z=>by rw [z,Y] at K;cases K
      have h:cc H2 b (.tup us) a=some (.dT C):=by rw [am A];exact K
      have g:=bU (F:=f) (o:=.tup us) Y;rw [hZ p G] at h g ⊢;refine⟨fL C B,iX.t h aE,?_⟩;cases W:bW B (C.map (·.1)) vs with
      | none=>rw [W] at n k;rw [show fL C B=none from n];exact k .non f Z _ (R.trans (U.trans g.stp)) (M.grow g) rfl
      | some z=>rw [W] at n k;obtain⟨w,ev,O⟩:=n;rw [ev];exact k w f Z _ (R.trans (U.trans g.stp)) (M.grow g) (RD.mono g.stp O)
     .cases q
noncomputable def vr (o:EE) (k:fS) (v:EV):ES:=fun L S=>aF (v L S) fun y a=>aF (o L a) fun d e=>aF (k L e) fun ps h=>match iI d h,cn ps with
 | some (i,s,x),some B=>if (s.Nodup/\few s=true/\few ps=true) then some (.nx,L,h.set i (.dtt (cI B (.p y) s x).1 (cI B (.p y) s x).2)) else none
 | _,_=>none
theorem Fc {J} (hu:X.A.units+1 < cLine) (ho:PE X o (tE X.K T)) (g:PA X N (nh X.K fs)) (hv:PE X c (tV X.K fv)) (hs:swapsWith c (some (.Subscript o (.Tuple N J G) h)) O.line X.env=pure false) :
  PS X (.Assign [.Subscript o (.Tuple N J G) h] c O) (ku X.K (vr T fs fv)):=(vA hu ho (qv g) hv hs).imp' fun D σ H hz=>by
 obtain⟨F,m,L,S,fl,L',S',r,l,q,k⟩:=hz;obtain⟨y,E,e1,q⟩:=ah q;obtain⟨d,I,e2,q⟩:=ah q;obtain⟨ps,M,e3,q⟩:=ah q;refine⟨F,m,L,S,y,E,r,l,e1,fun v P V H1 s r1 p1=>?_⟩;refine⟨P,V,L,E,d,I,r1,l.mono s,e2,fun x F2 m2 H2 e r2 G=>?_⟩;refine⟨F2,m2,L,I,ps,M,r2,(l.mono s).mono e,e3,fun us A W H3 n r3 Z=>?_⟩;cases w:iI d M with
 | none=>rw [w] at q;cases q
 | some t=>
  obtain⟨j,ks,vs⟩:=t;rw [w] at q;cases p:cn ps with
  | none=>rw [p] at q;cases q
  | some B=>
   rw [p] at q;dsimp only at q;split at q
   .rename_i u;cases q;obtain⟨rfl,N⟩:=mH w;refine⟨by rw [<- Z.length];exact j8 u.2.2,fun b hb=>?_⟩;have Q:=bU (F:=A) (o:=.tup us) hb;have K:=r3.grow Q;have f:=Q.stp (m:=W);obtain⟨a,rfl,i⟩:=RD.mono f (RD.mono n G);obtain⟨C,U,g,rs⟩:=K.obj j a _ i N;subst g;have pv:=RD.mono f (RD.mono n (RD.mono e (show RD X.K P H1 V (.p y) v from p1)));obtain⟨h1,h2⟩:=k9 (k:=B) pv u.1 rs;have Y:∀zs,cc H3 b (.tup us) a≠some (.tup zs):=fun zs z=>by rw [U] at z;cases z
    have st:=fG (o:=.dT (L2.putK C B v)) K i N trivial Y;have hl:C.length < sizeLine:=by have R:(C.map (·.1)).length≤1000000:=of_decide_eq_true u.2.1;rw [b8] at R;exact kY R (by decide)
    refine⟨a,_,rfl,tT.t (k:=B) U ?_ hl,?_⟩
    .rw [hZ p Z];exact aE
    .exact k σ A W _ (s.trans (e.trans (n.trans (f.trans st)))) (K.set i N trivial Y ⟨_,aE,h1,dj.mono st h2⟩) ((((l.mono s).mono e).mono n).mono (f.trans st))
   .cases q
end
section
variable {X:Cx}{pins:PN}{σ:L2.St}{H:Hp}{s:Shared}{a:Addr}{C:List (bz×V)}{B:bz}{u r:Value}{x:V}{A:Around}{E:VP}
theorem zU (I:Inv X pins σ H s) (e:H a=some (.dK C)) (K:C.length < sizeLine) (S:RelV (kV B) u) (o:RelV x r)
  (t:∀v w n,fL C B=some v->RelV v w->Inv X pins σ H n->Q w n) (p:fL C B=none->∀n,Inv X pins σ (cc H a (.dK (L2.putK C B x))) n->Q r n) :
  wpAny (model X.prog X.w) A (call (.builtin "dict.setdefault") [.ref a,u,r]) Q E s:=by
 obtain⟨z,hd,F,l,k⟩:=wc I.hok e;have h:=l.val B;refine km PySem.F.slot_dict_setdefault k.typeIs PySem.F.entry_dict_setdefault (PySem.F.args_dict_setdefault_3 _ _ _) (kt_meets_setdefault (bN X.prog X.w) a (lO S) hd r)
  ⟨F,k,by rw [<- l.length];exact z,fun v f=>?_,fun c m d j=>?_⟩
 .cases q:fL C B with
  | none=>rw [q,f] at h;cases h
  | some b=>rw [q,f] at h;exact t b v _ q h (I.tok _)
 .have q:fL C B=none:=by
   cases q:fL C B with
   | none=>rfl
   | some b=>rw [q,c] at h;cases h
  refine p q _ ?_;have g:∃q,m.get? a=some q:=let ⟨q,_,_,i,_⟩:=d;⟨q,i⟩
  have y:(L2.putK C B x).length≤sizeLine:=by have:=jn C B x;lia
  exact qV I (by rw [e];exact True.intro) j g (zR y hd (l.put B o) d)
end
section
variable {X:Cx}{o e f:Expr}{ap cp:Pos}{T fd:EE}{fk:EV}
noncomputable def mO (o:EE) (k:EV) (d:EE):EE:=fun L S=>aF (o L S) fun x a=>match jI x a with
 | none=>none
 | some _=>aF (k L a) fun z e=>aF (d L e) fun y h=>match jI x h,cd z with
  | some (i,s,v),some B=>if (s.Nodup/\few s=true) then match bW B s v with
    | some w=>some (w,h)
    | none=>some (y,h.set i (.dct (cI B y s v).1 (cI B y s v).2))
   else none
  | _,_=>none
theorem Az (ho:PE X o (tE X.K T)) (he:PE X e (tV X.K fk)) (hf:PE X f (tE X.K fd)) (n:M2 X o "setdefault" ap e f cp):PE X (.Call (.Attribute o "setdefault" ap) [e,f] [] cp) (tE X.K (mO T fk fd)):=by
 intro pins s σ H Q I ⟨F,m,L,S,d,S',r,l,q,k⟩;obtain⟨x,S1,e1,q⟩:=ah q;refine wpAny_Call_method n.base n.few n.line t8 PySem.F.slot_dict_setdefault PySem.F.type_dict_setdefault
  (cK (ho pins s σ H (fun v P=>∃b i,Stp F m H b i P/\Rel X.K b P i S1/\RD X.K b P i x v) I ⟨F,m,L,S,x,S1,r,l,e1,fun v b i P s1 r1 p1=>⟨b,i,s1,r1,p1⟩⟩) fun u s1 ⟨v,P,I1,ru,b,i,N,r1,p1⟩=>?_)
 cases D:jI x S1 with
 | none=>rw [D] at q;cases q
 | some t1=>
  obtain⟨j,ks1,vs1⟩:=t1;rw [D] at q;dsimp only at q;obtain⟨z,S2,e2,q⟩:=ah q;obtain⟨y,S3,e3,q⟩:=ah q;obtain⟨rfl,es1⟩:=qz D;obtain⟨a,rfl,hm⟩:=id p1;obtain⟨Y,hH1,_,_⟩:=r1.obj j a _ hm es1;cases (show u=Value.ref a from ru);obtain⟨t1,t2,_⟩:=uH I1 (.inl ⟨Y,.inl hH1⟩);refine⟨t1,t2,?_⟩;rw [n.trees];refine Calls.callWith_builtin rfl (Calls.evalArgs_plain (Calls.spliced_cons (cK (he pins s1 σ P (fun vz A=>∃c M,Stp b i P c M A/\Rel X.K c A M S2/\RP X.K c A z vz) I1 ⟨b,i,L,S1,z,S2,r1,l.mono N,e2,fun v c M A s2 r2 G=>⟨c,M,s2,r2,G⟩⟩) fun uz s2 ⟨vz,A,I2,rz,c,M,O,r2,G⟩=>
   Calls.spliced_cons (cK (hf pins s2 σ A (fun vy g=>∃p K,Stp c M A p K g/\Rel X.K p g K S3/\RD X.K p g K y vy) I2 ⟨c,M,L,S2,y,S3,r2,(l.mono N).mono O,e3,fun v p K g s3 U p3=>⟨p,K,s3,U,p3⟩⟩) fun uy s3 ⟨vy,g,I3,ry,p,K,rT,U,p3⟩=>j1 ?_))))
  cases eo:jI (.ref j) S3 with
  | none=>rw [eo] at q;cases q
  | some t=>
   obtain⟨j2,ks,vs⟩:=t;rw [eo] at q;cases ek:cd z with
   | none=>rw [ek] at q;cases q
   | some B=>
    rw [ek] at q;dsimp only at q;split at q
    .rename_i hc;obtain⟨e4,E⟩:=qz eo;cases e4;obtain⟨a',e5,J⟩:=RD.mono (O.trans rT) p1;cases e5;obtain⟨C,hH,hk,rs⟩:=U.obj j a _ J E;subst hk;have R:=iD (k:=B) rs;have pz:=RP.mono rT G;have ez:=gJ ek pz;subst ez;have hl:C.length < sizeLine:=by
      have h9:(C.map (·.1)).length≤1000000:=of_decide_eq_true hc.2;rw [b8] at h9;exact kY h9 (by decide)
     have Z:=N.trans (O.trans rT);refine zU I3 hH hl rz ry (fun v w s' W rv I'=>?_) fun W s' I'=>?_
     .cases V:bW B (C.map (·.1)) vs with
      | none=>rw [V] at R;rw [show fL C B=none from R] at W;cases W
      | some w'=>rw [V] at R q;dsimp only at q;cases q;obtain⟨v',h,rd⟩:=R;rw [W] at h;cases h;exact⟨v,g,I',rv,k v p K g Z U rd⟩
     .cases V:bW B (C.map (·.1)) vs with
      | some w'=>rw [V] at R;obtain⟨v',h,_⟩:=R;rw [W] at h;cases h
      | none=>
       rw [V] at q;dsimp only at q;cases q;obtain⟨h1,h2⟩:=k9 (k:=B) p3 hc.1 rs;have nt:∀zs,g a≠some (.tup zs):=fun zs z=>by rw [hH] at z;cases z
       have st:=fG (o:=.dK (L2.putK C B vy)) U J E trivial nt;exact⟨vy,_,I',ry,k vy p K _ (Z.trans st) (U.set J E trivial nt ⟨_,aE,h1,dj.mono st h2⟩) (RD.mono st p3)⟩
    .cases q
end
end Ev
namespace PySem
open PySem PyProof.Rows
section
variable {prog:Program}{w:World}{A:Around}{E:VP}{s:Shared}
theorem m_ (t:s.heap.IsTupleIter k h i) (f:s.heap.IsTuple h n) (b:n[i]? = some x)
  (e:∀a,a.IsTupleIter k h (i+1)->Heap.SameBut k s.heap a->Q x { s with heap:=a }):wpAny (model prog w) A (Builtin.SmallTypes.nextOf (.ref k)) Q E s:=by
 have T:=t.typeIs;obtain⟨⟨q,v,m,r⟩,o,c,hd⟩:=id t;obtain⟨u,l,_,p,d⟩:=f;dsimp only at c hd;subst c hd;unfold Builtin.SmallTypes.nextOf;apply wpAny_bind;apply wpAny_callSpecial?_slot (name:=Str.ofString "__next__") T F.slot_tuple_iterator_next;refine wpAny_call_entry F.slot_tuple_iterator_next T F.entry_tuple_iterator_next ?_ (F.args_tuple_iterator_next_1 _);repeat first | with_reducible refine wpAny_bind (wpAny_field o rfl (x:=.ref h) rfl ?_) | wp_step
 rw [d];apply wpAny_pure;simp only [Int.toNat_natCast,b];apply wpAny_bind;apply wpAny_setField o rfl (by simp);refine wpAny_pure ⟨x,rfl,wpAny_pure (e _ ⟨_,p7 _ o rfl,rfl,?_⟩ (mV ..))⟩;simp [Obj.mapFields,rawInt]
theorem ko (m:A.handled=none) (t:s.heap.IsTupleIter k h i) (p:s.heap.IsTuple h n) (q:n[i]? = none)
  (b:∀a e,Heap.ExtBut k s.heap a->(∃o,a.get? e=some o/\o.cls=.type "StopIteration")->E (.ref e) { s with heap:=a }):wpAny (model prog w) A (Builtin.SmallTypes.nextOf (.ref k)) Q E s:=by
 have T:=t.typeIs;obtain⟨⟨j,y,v,u⟩,r,c,hd⟩:=id t;obtain⟨z,l,_,g,d⟩:=p;dsimp only at c hd;subst c hd;unfold Builtin.SmallTypes.nextOf;apply wpAny_bind;apply wpAny_callSpecial?_slot (name:=Str.ofString "__next__") T F.slot_tuple_iterator_next;refine wpAny_call_entry F.slot_tuple_iterator_next T F.entry_tuple_iterator_next ?_ (F.args_tuple_iterator_next_1 _);repeat first | with_reducible refine wpAny_bind (wpAny_field r rfl (x:=.ref h) rfl ?_) | wp_step
 rw [d];apply wpAny_pure;simp only [Int.toNat_natCast,q];have f:A.in1.handled=none:=m;repeat first | assumption | wp_step
 unfold raiseNew;apply wpAny_bind;apply wpAny_handled;rw [f];apply wpAny_throw;exact b _ _ (((mV ..).extBut.push _).push _) ⟨_,Heap.get?_push_size _ rfl,rfl⟩
noncomputable def fQ (h:Heap) (z TI TO:Addr) (f x:Value):Prop:=h.get? z=some { cls:=.type "zip",data:=.fields #[f,x,.bool false,.ref TI,.ref TO] }
noncomputable def eO (h:Heap) (T:Addr) (a b:Value):Prop:=h.get? T=some { cls:=.type "tuple",data:=.seq #[a,b] }
theorem xW (l y:Addr) (X Y:Array Value):Meets (Builtin.«zip.__new__» ⟨[.type "zip",.ref l,.ref y],[]⟩) (fun _ R s=>s.heap.IsList l X/\s.heap.IsTuple y Y /\
  ∀v S F TI TO z,(∀b o,s.heap.get? b=some o->v.get? b=some o)->s.heap.objs.size≤S->S < F->F < TI->TI < TO->TO < z->v.IsListIter S l 0->v.IsTupleIter F y 0->eO v TI (.ref S) (.ref F)->eO v TO .none .none ->
   fQ v z TI TO .none (.bool false)->R (.ok (.ret (.ref z))) { s with heap:=v }):=
 .of_wp fun prog w A R s h=>by
  obtain⟨i,g,d,V,os⟩:=s;obtain⟨B,C,h⟩:=h;have U:=sub_zip;have L:Heap.IsList (Shared.heap ⟨i,g,d,V,os⟩) l X:=B;have P:Heap.IsTuple (Shared.heap ⟨i.push { cls:=.type "list_iterator",data:=.fields #[.ref l,.int 0 0] },g,d,V,os⟩) y Y:=C.push _
  wp_walk using wpAny_pyIter_list L,wpAny_pyIter_tuple P
  have j:∀(u n x a f c:Heap) (r t p q m:Obj),n=u.push r->x=n.push t->a=x.push p->f=a.push q->c=f.push m->r.isFreed=false->t.isFreed=false->p.isFreed=false->q.isFreed=false->m.isFreed=false ->
    (∀b o,u.get? b=some o->c.get? b=some o)/\u.objs.size < n.objs.size/\n.objs.size < x.objs.size/\x.objs.size < a.objs.size/\a.objs.size < f.objs.size /\
    c.get? u.objs.size=some r/\c.get? n.objs.size=some t/\c.get? x.objs.size=some p/\c.get? a.objs.size=some q/\c.get? f.objs.size=some m:=by
   intro u n x a f c r t p q m E G I J M f1 f2 f3 f4 f5;have N:n.get? u.objs.size=some r:=by rw [E];exact Heap.get?_push_size _ f1
   have O:x.get? n.objs.size=some t:=by rw [G];exact Heap.get?_push_size _ f2
   have Q:a.get? x.objs.size=some p:=by rw [I];exact Heap.get?_push_size _ f3
   have T:f.get? a.objs.size=some q:=by rw [J];exact Heap.get?_push_size _ f4
   have g5:c.get? f.objs.size=some m:=by rw [M];exact Heap.get?_push_size _ f5
   have W:∀b o,n.get? b=some o->x.get? b=some o:=fun b o e=>by rw [G];exact Heap.get?_push_of_some _ e
   have D:∀b o,x.get? b=some o->a.get? b=some o:=fun b o e=>by rw [I];exact Heap.get?_push_of_some _ e
   have K:∀b o,a.get? b=some o->f.get? b=some o:=fun b o e=>by rw [J];exact Heap.get?_push_of_some _ e
   have H:∀b o,f.get? b=some o->c.get? b=some o:=fun b o e=>by rw [M];exact Heap.get?_push_of_some _ e
   exact⟨fun b o e=>H _ _ (K _ _ (D _ _ (W _ _ (by rw [E];exact Heap.get?_push_of_some _ e)))),Heap.lt_size N,Heap.lt_size O,Heap.lt_size Q,Heap.lt_size T,H _ _ (K _ _ (D _ _ (W _ _ N))),H _ _ (K _ _ (D _ _ O)),H _ _ (K _ _ Q),H _ _ T,g5⟩
  let r:Obj:={ cls:=.type "list_iterator",data:=.fields #[.ref l,.int 0 0] }
  let n:=i.push r
  let t:Obj:={ cls:=.type "tuple_iterator",data:=.fields #[.ref y,.int 0 0] }
  let x:=n.push t
  let p:Obj:={ cls:=.type "tuple",data:=.seq #[.ref i.objs.size,.ref n.objs.size] }
  let a:=x.push p
  let q:Obj:={ cls:=.type "tuple",data:=.seq #[.none,.none] }
  let f:=a.push q
  let m:Obj:={ cls:=.type "zip",data:=.fields #[.none,.bool false,.bool false,.ref x.objs.size,.ref a.objs.size] }
  obtain⟨k,s1,s2,s3,s4,Z,a2,a3,a4,a5⟩:=j i n x a f (f.push m) r t p q m rfl rfl rfl rfl rfl rfl rfl rfl rfl rfl;exact⟨_,rfl,h (f.push m) i.objs.size n.objs.size x.objs.size a.objs.size f.objs.size k (Nat.le_refl _) s1 s2 s3 s4 ⟨_,Z,rfl,rfl⟩ ⟨_,a2,rfl,rfl⟩ a3 a4 a5⟩
end
section
variable {prog:Program}{w:World}{A:Around}{E:VP}{s:Shared}
theorem xP (h:Q (s.heap.get? a) s):wpAny M A (loadIfAlive a) Q E s:=fun x p _=>by unfold loadIfAlive;rw [Sem.wp_loadIfAlive];exact (Sem.wp_pure ..).mpr h
theorem nK {z TI TO T:Addr}{f:Bool}{o:Obj}{Q:Bool->Shared->Prop} (a:fQ s.heap z TI TO (rawInt T) (.bool f)) (n:s.heap.get? T=some o)
  (h:∀e,fQ e z TI TO (rawInt T) (.bool true)->Heap.SameBut z s.heap e->Q false { s with heap:=e }):wpAny (model prog w) A (Builtin.SmallTypes.ownedTupleIsFree (.ref z)) Q E s:=by
 unfold Builtin.SmallTypes.ownedTupleIsFree;apply wpAny_bind;refine wpAny_field (show s.heap.get? z=some _ from a) rfl (x:=rawInt T) rfl ?_;unfold rawInt;dsimp only;apply wpAny_bind;refine xP ?_;rw [Int.toNat_natCast,n];rw [if_neg (by simp)];apply wpAny_bind;refine wpAny_field (show s.heap.get? z=some _ from a) rfl (x:=.bool f) rfl ?_;cases f with
 | true=>rw [if_neg (by decide)];exact wpAny_pure (h s.heap a ⟨rfl,fun _ _=>rfl⟩)
 | false=>rw [if_pos (by decide)];apply wpAny_bind;refine wpAny_setField (show s.heap.get? z=some _ from a) rfl (by simp) (wpAny_pure (h _ ?_ (mV ..)));unfold fQ;rw [p7 _ (show s.heap.get? z=some _ from a) rfl];simp [Obj.mapFields]
theorem wz {z TI TO i h l m T:Addr}{K:Bool}{k:Nat}{H S:Array Value}{x y:Value}{X:Obj}{Q:VP} (q:fQ s.heap z TI TO (rawInt T) (.bool K)) (I:eO s.heap TI (.ref i) (.ref h)) (D:s.heap.get? T=some X)
  (P:s.heap.IsListIter i l k) (B:s.heap.IsTupleIter h m k) (t:s.heap.IsList l H) (p:s.heap.IsTuple m S) (L:H[k]? = some x) (M:S[k]? = some y)
  (u:i≠z) (g:h≠z) (R:l≠z) (V:m≠z) (j:h≠i) (W:m≠i) (n7:l≠h) (n8:l≠i) (n9:m≠h)
  (C:∀f:Heap,fQ f z TI TO (rawInt T) (.bool true)->f.IsListIter i l (k+1)->f.IsTupleIter h m (k+1)->(∀c o,c≠z->c≠i->c≠h->s.heap.get? c=some o->f.get? c=some o) ->
   Q (.ref f.objs.size) { s with heap:=f.push { cls:=.type "tuple",data:=.seq #[x,y] } }) :
  wpAny (model prog w) A (Builtin.«zip.__next__» ⟨[.ref z],[]⟩) (fun r Y=>∃v,r=.done (.ret v)/\Q v Y) E s:=by
 unfold Builtin.«zip.__next__»;apply wpAny_bind;apply wpAny_pure;apply wpAny_bind;refine wpAny_field (show s.heap.get? z=some _ from q) rfl (x:=.bool false) rfl ?_;apply wpAny_bind;refine wpAny_field (show s.heap.get? z=some _ from q) rfl (x:=.ref TI) rfl ?_;apply wpAny_bind;refine wpAny_seqItems (show s.heap.get? TI=some _ from I) rfl ?_;dsimp only;rw [if_neg (by simp)];apply wpAny_bind;refine nK q D fun Z d b=>?_
 rw [if_neg (by simp)];apply wpAny_bind;rw [<- Array.forIn_toList];show wpAny _ _ (forIn [Value.ref i,Value.ref h] _ _) _ _ _;rw [List.forIn_cons];apply wpAny_bind;apply wpAny_bind;apply wpAny_holding;show wpAny _ _ (Builtin.SmallTypes.nextOf (.ref i) >>= _) _ _ _;apply wpAny_bind;refine wpAny_nextOf_list_item (P.extBut b.extBut u) (t.extBut b.extBut R) L fun ha N a=>wpAny_pure ?_;dsimp only;apply wpAny_pure;dsimp only;rw [List.forIn_cons];apply wpAny_bind;apply wpAny_bind;apply wpAny_holding;show wpAny _ _ (Builtin.SmallTypes.nextOf (.ref h) >>= _) _ _ _;apply wpAny_bind;refine m_ ((B.extBut b.extBut g).extBut a.extBut j) ((p.extBut b.extBut V).extBut a.extBut W) M fun G O n=>wpAny_pure ?_;dsimp only;apply wpAny_pure;dsimp only;rw [List.forIn_nil];apply wpAny_pure;dsimp only;apply wpAny_bind;refine wpAny_newTuple (hsz:=by show 2≤sizeLine;decide) (wpAny_pure ⟨_,rfl,C G ?_ ?_ O ?_⟩)
 .exact n.extBut _ _ (Ne.symm g) (a.extBut _ _ (Ne.symm u) d)
 .exact N.extBut n.extBut (Ne.symm j)
 .exact fun c o J U F e=>n.extBut _ _ F (a.extBut _ _ U (b.extBut _ _ J e))
theorem xX {z TI TO i f n T:Addr}{t:Bool}{k:Nat}{m:Array Value}{H:Obj}{Q:Fin->Shared->Prop} (d:A.handled=none) (a:fQ s.heap z TI TO (rawInt T) (.bool t)) (I:eO s.heap TI (.ref i) (.ref f)) (v:s.heap.get? T=some H)
  (p:s.heap.IsListIter i n k) (l:s.heap.IsList n m) (u:m[k]? = none) (j:i≠z) (y:n≠z)
  (q:∀h e,(∀c o,c≠z->c≠i->s.heap.get? c=some o->h.get? c=some o)->(∃o,h.get? e=some o/\o.cls=.type "StopIteration")->E (.ref e) { s with heap:=h }) :
  wpAny (model prog w) A (Builtin.«zip.__next__» ⟨[.ref z],[]⟩) Q E s:=by
 unfold Builtin.«zip.__next__»;apply wpAny_bind;apply wpAny_pure;apply wpAny_bind;refine wpAny_field (show s.heap.get? z=some _ from a) rfl (x:=.bool false) rfl ?_;apply wpAny_bind;refine wpAny_field (show s.heap.get? z=some _ from a) rfl (x:=.ref TI) rfl ?_;apply wpAny_bind;refine wpAny_seqItems (show s.heap.get? TI=some _ from I) rfl ?_;dsimp only;rw [if_neg (by simp)];apply wpAny_bind;refine nK a v fun S g b=>?_
 rw [if_neg (by simp)];apply wpAny_bind;rw [<- Array.forIn_toList];show wpAny _ _ (forIn [Value.ref i,Value.ref f] _ _) _ _ _;rw [List.forIn_cons];apply wpAny_bind;apply wpAny_bind;apply wpAny_holding;show wpAny _ _ (Builtin.SmallTypes.nextOf (.ref i) >>= _) _ _ _;apply wpAny_bind;exact wpAny_nextOf_list_end d (p.extBut b.extBut j) (l.extBut b.extBut y) u fun h e x o=>q h e (fun c F J U r=>x _ _ U (b.extBut _ _ J r)) o
end
section
variable {prog:Program}{w:World}{A:Around}{E:VP}{s:Shared}
theorem wA {z TI TO i m K l:Addr}{xs ys:Array Value}{x y:Value}{Q:VP} (d:fQ s.heap z TI TO .none (.bool false)) (I:eO s.heap TI (.ref i) (.ref m)) (O:eO s.heap TO .none .none)
  (h1:s.heap.IsListIter i K 0) (h2:s.heap.IsTupleIter m l 0) (B:s.heap.IsList K xs) (C:s.heap.IsTuple l ys) (hx:xs[0]? = some x) (hy:ys[0]? = some y)
  (N:i≠z) (V:m≠z) (n3:K≠z) (n4:l≠z) (n5:m≠i) (n6:l≠i) (W:TO≠z) (X:TO≠i) (Y:TO≠m) (R:l≠TO)
  (hQ:∀(q:Heap) (T:Addr),fQ q z TI TO (rawInt T) (.bool false)->q.IsListIter i K 1->q.IsTupleIter m l 1->eO q T x y->s.heap.get? T=none->(∀c o,c≠z->c≠i->c≠m->c≠TO->s.heap.get? c=some o->q.get? c=some o) ->
   Q (.ref T) { s with heap:=q }) :
  wpAny (model prog w) A (Builtin.«zip.__next__» ⟨[.ref z],[]⟩) (fun P s'=>∃v,P=.done (.ret v)/\Q v s') E s:=by
 unfold Builtin.«zip.__next__»;apply wpAny_bind;apply wpAny_pure;apply wpAny_bind;refine wpAny_field (show s.heap.get? z=some _ from d) rfl (x:=.bool false) rfl ?_;apply wpAny_bind;refine wpAny_field (show s.heap.get? z=some _ from d) rfl (x:=.ref TI) rfl ?_;apply wpAny_bind;refine wpAny_seqItems (show s.heap.get? TI=some _ from I) rfl ?_;dsimp only;rw [if_neg (by simp)];apply wpAny_bind;unfold Builtin.SmallTypes.ownedTupleIsFree;apply wpAny_bind;refine wpAny_field (show s.heap.get? z=some _ from d) rfl (x:=.none) rfl (wpAny_pure ?_);rw [if_pos rfl];apply wpAny_bind;apply wpAny_rule;apply wpAny_bind;refine wpAny_field (show s.heap.get? z=some _ from d) rfl (x:=.ref TO) rfl ?_;dsimp only;apply wpAny_bind;refine wpAny_setField_rec (show s.heap.get? z=some _ from d) (by simp) fun h0 D b=>?_
 apply wpAny_bind;show wpAny _ _ (forIn [(Value.ref i,0),(Value.ref m,1)] _ _) _ _ _;rw [List.forIn_cons];apply wpAny_bind;apply wpAny_bind;apply wpAny_onRaise;show wpAny _ _ (Builtin.SmallTypes.nextOf (.ref i) >>= _) _ _ _;apply wpAny_bind;refine wpAny_nextOf_list_item (h1.extBut b.extBut N) (B.extBut b.extBut n3) hx fun ha ia h=>wpAny_pure ?_;dsimp only;have H:ha.get? TO=some { cls:=.type "tuple",data:=.seq #[.none,.none] }:=h.extBut _ _ X (b.extBut _ _ W O);apply wpAny_bind;refine wpAny_seqItems H rfl ?_;dsimp only;apply wpAny_bind;refine wpAny_updateSeq_pair (s:={ s with heap:=ha }) H fun hb t a=>?_;replace t:hb.get? TO=some { cls:=.type "tuple",data:=.seq #[x,.none] }:=t;apply wpAny_bind;apply wpAny_letGo;apply wpAny_pure;dsimp only;rw [List.forIn_cons];apply wpAny_bind;apply wpAny_bind;apply wpAny_onRaise;show wpAny _ _ (Builtin.SmallTypes.nextOf (.ref m) >>= _) _ _ _;apply wpAny_bind;refine m_ (((h2.extBut b.extBut V).extBut h.extBut n5).extBut a.extBut (Ne.symm Y)) (((C.extBut b.extBut n4).extBut h.extBut n6).extBut a.extBut R) hy fun hc ic n=>wpAny_pure ?_;dsimp only;have S:hc.get? TO=some { cls:=.type "tuple",data:=.seq #[x,.none] }:=n.extBut _ _ Y t;apply wpAny_bind;refine wpAny_seqItems S rfl ?_;dsimp only;apply wpAny_bind;refine wpAny_updateSeq_pair (s:={ s with heap:=hc }) S fun hd p f=>?_;replace p:hd.get? TO=some { cls:=.type "tuple",data:=.seq #[x,y] }:=p;apply wpAny_bind;apply wpAny_letGo;apply wpAny_pure;dsimp only;rw [List.forIn_nil];apply wpAny_pure;dsimp only;apply wpAny_bind;refine wpAny_seqItems p rfl ?_;dsimp only;apply wpAny_bind;refine wpAny_newTuple (hsz:=by show 2≤sizeLine;decide) ?_;have u:hd.get? z=some { cls:=.type "zip",data:=.fields #[.ellipsis,.bool false,.bool false,.ref TI,.ref TO] }:=f.extBut _ _ (Ne.symm W) (n.extBut _ _ (Ne.symm V) (a.extBut _ _ (Ne.symm W) (h.extBut _ _ (Ne.symm N) D)));have F:=Heap.lt_size u;have G:(hd.push { cls:=.type "tuple",data:=.seq #[x,y] }).get? z=some { cls:=.type "zip",data:=.fields #[.ellipsis,.bool false,.bool false,.ref TI,.ref TO] }:=Heap.get?_push_of_some _ u;apply wpAny_bind;unfold Builtin.SmallTypes.ownedTupleHandOut;dsimp only;apply wpAny_bind;refine wpAny_setField_rec G (by simp) fun he L g=>?_;refine wpAny_setField_rec L (by simp) fun hf M j=>?_;have k:∀c o,c≠z->hd.get? c=some o->hf.get? c=some o:=fun c o J e=>j.extBut _ _ J (g.extBut _ _ J (Heap.get?_push_of_some _ e));refine wpAny_pure ⟨_,rfl,hQ hf hd.objs.size M ?_ ?_ ?_ ?_ ?_⟩
 .exact (((ia.extBut a.extBut (Ne.symm X)).extBut n.extBut (Ne.symm n5)).extBut f.extBut (Ne.symm X)).at fun o e=>k _ o N e
 .obtain⟨o,e,r⟩:=ic.extBut f.extBut (Ne.symm Y);exact⟨o,k _ o V e,r⟩
 .exact j.extBut _ _ (Nat.ne_of_gt F) (g.extBut _ _ (Nat.ne_of_gt F) (Heap.get?_push_size _ rfl))
 .cases e:s.heap.get? hd.objs.size with
  | none=>rfl
  | some o=>exact absurd (Heap.lt_size e) (by rw [f.1,n.1,a.1,h.1,b.1];exact i' _)
 .exact fun c o J U c3 Z e=>k c o J (f.extBut _ _ Z (n.extBut _ _ c3 (a.extBut _ _ Z (h.extBut _ _ U (b.extBut _ _ J e)))))
theorem xY (j:A.handled=none) (a:fQ s.heap z TI TO .none (.bool false)) (T:eO s.heap TI (.ref k) (.ref I))
  (u:s.heap.IsListIter k d 0) (l:s.heap.IsList d M) (y:M[0]? = none) (t:k≠z) (S:d≠z)
  (i:∀h e,(∀c o,c≠z->c≠k->s.heap.get? c=some o->h.get? c=some o)->(∃o,h.get? e=some o/\o.cls=.type "StopIteration")->E (.ref e) { s with heap:=h }) :
  wpAny (model prog w) A (Builtin.«zip.__next__» ⟨[.ref z],[]⟩) Q E s:=by
 unfold Builtin.«zip.__next__»;apply wpAny_bind;apply wpAny_pure;apply wpAny_bind;refine wpAny_field (show s.heap.get? z=some _ from a) rfl (x:=.bool false) rfl ?_;apply wpAny_bind;refine wpAny_field (show s.heap.get? z=some _ from a) rfl (x:=.ref TI) rfl ?_;apply wpAny_bind;refine wpAny_seqItems (show s.heap.get? TI=some _ from T) rfl ?_;dsimp only;rw [if_neg (by simp)];apply wpAny_bind;unfold Builtin.SmallTypes.ownedTupleIsFree;apply wpAny_bind;refine wpAny_field (show s.heap.get? z=some _ from a) rfl (x:=.none) rfl (wpAny_pure ?_);rw [if_pos rfl];apply wpAny_bind;apply wpAny_rule;apply wpAny_bind;refine wpAny_field (show s.heap.get? z=some _ from a) rfl (x:=.ref TO) rfl ?_;dsimp only;apply wpAny_bind;refine wpAny_setField_rec (show s.heap.get? z=some _ from a) (by simp) fun K r b=>?_
 apply wpAny_bind;show wpAny _ _ (forIn [(Value.ref k,0),(Value.ref I,1)] _ _) _ _ _;rw [List.forIn_cons];apply wpAny_bind;apply wpAny_bind;apply wpAny_onRaise;show wpAny _ _ (Builtin.SmallTypes.nextOf (.ref k) >>= _) _ _ _;apply wpAny_bind;refine wpAny_nextOf_list_end j (u.extBut b.extBut t) (l.extBut b.extBut S) y fun h e x o=>?_;have n:=x _ _ (Ne.symm t) r;refine wpAny_setField_rec (s:={ s with heap:=h }) n (by simp) fun g H f=>i g e (fun c p J U v=>f.extBut _ _ J (x _ _ U (b.extBut _ _ J v))) ?_;obtain⟨p,m,c⟩:=o;have F:e≠z:=fun q=>by rw [q,n] at m;cases m;exact absurd (show Value.type "zip"=Value.type "StopIteration" from c) (by decide)
 exact⟨p,f.extBut _ _ F m,c⟩
end
theorem rW:typeLookup (.type "zip") "keys"=pure none:=by rw [typeLookup_type,builtinLookup_eq_fast];kernel_rfl
theorem m5:typeLookup (.type "zip") "__getattr__"=pure none:=by rw [typeLookup_type,builtinLookup_eq_fast];kernel_rfl
theorem k6:entryFor table "zip.__getattribute__"=some Builtin.«object.__getattribute__»:=
 entryFor_alias (id':="object.__getattribute__") (by kernel_rfl) (by decide +kernel) (by decide +kernel) (by kernel_rfl)
section
variable {prog:Program}{w:World}{A:Around}{E:VP}{s:Shared}
theorem xV (z TI TO:Addr) (f0 f1:Value) (u:Tok):Meets (Builtin.«object.__getattribute__» ⟨[.ref z,.str "keys" u],[]⟩) (fun A R s=>fQ s.heap z TI TO f0 f1/\raisesAttr (.ref z) "keys" A R s):=
 .of_wp fun prog w A R s hs=>by
  obtain⟨hp,g,d,tk,os⟩:=s;obtain⟨hx,hs⟩:=hs;unfold fQ at hx;have hT:(⟨hp,g,d,tk,os⟩:Shared).TypeIs (.ref z) "zip":=⟨_,hx,rfl⟩;have nk:=rW;unfold Builtin.«object.__getattribute__»;repeat any_goals first | assumption | wp_step
  exact wpAny_raiseAttrError hs.1 hs.2 (attrMsg_fits (by decide +kernel) (by size_fits))
theorem wy (q:fQ s.heap z TI TO l j) (i:A.handled=none)
  (h:∀x v,(∀b o,s.heap.get? b=some o->x.get? b=some o)->Q none { s with heap:=x,toks:=v }):wpAny (model prog w) A (getAttr? (.ref z) "keys") Q E s:=by
 obtain⟨p,g,d,v,os⟩:=s;have T:∀t,(⟨p,g,d,t,os⟩:Shared).TypeIs (.ref z) "zip":=fun _=>⟨_,q,rfl⟩;have j:=sub_AttributeError;have y:=qa.lookup;have H:=qa.bind (.ref z);have S:=m5;have step:∀(n:Nat) (u:Tok) (m:VP) (f:VP),(∀x c e,Heap.NewAttrErr p x e (.ref z) "keys"->f (.ref e) ⟨x,g,d,c,os⟩) ->
   wpAny (model prog w) A (call (Value.builtin "zip.__getattribute__") ([Value.ref z]++[Value.str "keys" u]) []) m f ⟨p,g,d,n,os⟩:=fun n u m f k=>
  call_meets qa (T _) k6 (F.args_zip_getattribute_2 _ _) (xV z TI TO _ _ u) ⟨q,i,k⟩
 unfold getAttr?;unfold getAttrBy?;unfold getAttrBy;repeat any_goals first | assumption | exact T _ | (with_reducible refine step _ _ _ _ fun x t e a=>?_) | wp_step
 have r:=a.there;obtain⟨K,P,r⟩:=r;repeat any_goals first | assumption | wp_step
 exact h _ _ a.keeps
end
section
variable {prog:Program}{w:World}{A:Around}{E:VP}{s:Shared}
theorem xU (n:s.TypeIs (.ref z) "zip")
  (h:wpAny (model prog w) A.in1 (Builtin.«zip.__next__» ⟨[.ref z],[]⟩) (fun f x=>∃v,f=.done (.ret v)/\Q (some v) x) (fun e x=>∃a o,e=.ref a/\x.heap.get? a=some o/\o.cls=.type "StopIteration"/\Q none x) s) :
  wpAny (model prog w) A (pyNext (.ref z)) Q E s:=by
 unfold pyNext;apply wpAny_bind;apply wpAny_attempt;refine wpAny_callSpecial?_slot (name:=Str.ofString "__next__") n F.slot_zip_next (wpAny_call_entry F.slot_zip_next n F.entry_zip_next (wpAny_mono h (fun f x ⟨v,e,q⟩=>⟨v,e,wpAny_pure q⟩) fun e x ⟨a,o,k,c,m,q⟩=>?_) (F.args_zip_next_1 _));subst k;apply wpAny_bind;exact wpAny_isInstance (T:="StopIteration") (b:=true) ⟨_,c,m⟩ isSubtype_stop (wpAny_pure q)
noncomputable def B0 (d:Addr) (h:Heap) (z TI TO i x l a:Addr) (k:Nat):Prop:=eO h TI (.ref i) (.ref x)/\h.IsListIter i l k/\h.IsTupleIter x a k /\
 ((k=0/\fQ h z TI TO .none (.bool false)/\eO h TO .none .none)\/∃(T:Addr) (o:Obj) (f:Bool),fQ h z TI TO (rawInt T) (.bool f)/\h.get? T=some o/\T≠z/\T≠i/\T≠x/\T≠d)
structure ZAp (d z TI TO i1 i2 l1 l2:Addr):Prop where
 nd:[d,z,TI,TO,i1,i2].Nodup
 l1n:l1 ∉ [d,z,TI,TO,i1,i2]
 l2n:l2 ∉ [d,z,TI,TO,i1,i2]
theorem B0.typeIs (x:B0 d s.heap z TI TO n q l g k):s.TypeIs (.ref z) "zip":=by
 obtain⟨_,_,_,⟨_,h,_⟩ | ⟨T,o,f,h,_⟩⟩:=x
 .exact⟨_,h,rfl⟩
 .exact⟨_,h,rfl⟩
theorem B0.but (x:B0 d h z TI TO q g l j k) (p:ZAp d z TI TO q g l j) (s:Heap.SameBut d h I):B0 d I z TI TO q g l j k:=by
 have n:=p.nd;simp only [List.nodup_cons,bj,dU,dS,not_or] at n;obtain⟨b,c,m,r⟩:=x;refine⟨s.extBut _ _ (Ne.symm n.1.2.1) b,c.extBut s.extBut (Ne.symm n.1.2.2.2.1),m.extBut s.extBut (Ne.symm n.1.2.2.2.2),?_⟩;rcases r with ⟨e,a,t⟩ | ⟨T,o,v,a,t,w,u,i,f⟩
 .exact .inl ⟨e,s.extBut _ _ (Ne.symm n.1.1) a,s.extBut _ _ (Ne.symm n.1.2.2.1) t⟩
 .exact .inr ⟨T,o,v,s.extBut _ _ (Ne.symm n.1.1) a,s.extBut _ _ f t,w,u,i,f⟩
theorem xZ (p:ZAp d z TI TO I M l1 l2) (a:B0 d s.heap z TI TO I M l1 l2 k) (hd:s.heap.get? d=some od) (l:s.heap.IsList l1 xs) (b:s.heap.IsTuple l2 ys) (B:xs[k]? = some x) (C:ys[k]? = some y)
  (P:∀h T,B0 d h z TI TO I M l1 l2 (k+1)->eO h T x y->T≠d->(∀c o,c ∉ [z,TO,I,M]->s.heap.get? c=some o->h.get? c=some o)->Q (some (.ref T)) { s with heap:=h }) :
  wpAny (model prog w) A (pyNext (.ref z)) Q E s:=by
 have V:=p.nd;have R:=p.l1n;have U:=p.l2n;simp only [List.nodup_cons,bj,dU,dS,not_or] at V R U;refine xU a.typeIs ?_;obtain⟨m,g,i,O⟩:=a;rcases O with ⟨e,v,t⟩ | ⟨T,W,f1,v,t,J,L,N,Z⟩
 .subst e;refine wA v m t g i l b B C (by grind) (by grind) (by grind) (by grind) (by grind) (by grind) (by grind) (by grind) (by grind) (by grind) fun h T S F K D G q=>?_
  have fresh:∀c o,s.heap.get? c=some o->T≠c:=fun c o f z=>by rw [z,f] at G;cases G
  obtain⟨X,j,_⟩:=g;obtain⟨Y,H,_⟩:=i;exact P h T ⟨q _ _ (by grind) (by grind) (by grind) (by grind) m,F,K,.inr ⟨T,_,false,S,D,fresh _ _ v,fresh _ _ j,fresh _ _ H,fresh _ _ hd⟩⟩ D (fresh _ _ hd) fun c o n f=>q c o (fun z=>n (by simp [z])) (fun z=>n (by simp [z])) (fun z=>n (by simp [z])) (fun z=>n (by simp [z])) f
 .refine wz v m t g i l b B C (by grind) (by grind) (by grind) (by grind) (by grind) (by grind) (by grind) (by grind) (by grind) fun h S F K q=>?_;have dl:d < h.objs.size:=Heap.lt_size (q _ _ (by grind) (by grind) (by grind) hd);have u:∀c o,h.get? c=some o->(h.push { cls:=.type "tuple",data:=.seq #[x,y] }).get? c=some o:=fun c o e=>Heap.get?_push_of_some _ e;refine P _ _ ⟨u _ _ (q _ _ (by grind) (by grind) (by grind) m),?_,?_,.inr ⟨T,W,true,u _ _ S,u _ _ (q _ _ J L N t),J,L,N,Z⟩⟩ (Heap.get?_push_size _ rfl) (Nat.ne_of_gt dl) fun c o n f=>u _ _ (q c o (fun z=>n (by simp [z])) (fun z=>n (by simp [z])) (fun z=>n (by simp [z])) f)
  .obtain⟨o,e,r⟩:=F;exact⟨o,u _ _ e,r⟩
  .obtain⟨o,e,r⟩:=K;exact⟨o,u _ _ e,r⟩
theorem Au (u:A.handled=none) (p:ZAp d z TI TO j I M l2) (a:B0 d s.heap z TI TO j I M l2 k) (l:s.heap.IsList M xs) (i:xs[k]? = none)
  (v:∀h,(∀c o,c ∉ [z,TO,j,I]->s.heap.get? c=some o->h.get? c=some o)->Q none { s with heap:=h }):wpAny (model prog w) A (pyNext (.ref z)) Q E s:=by
 have S:=p.nd;have H:=p.l1n;simp only [List.nodup_cons,bj,dU,dS,not_or] at S H;refine xU a.typeIs ?_;obtain⟨r,t,F,y⟩:=a;rcases y with ⟨e,n,g⟩ | ⟨T,P,K,n,g,B,C,D,G⟩
 .subst e;exact xY u n r t l i (by grind) (by grind) fun h e q n=>by obtain⟨o,b,m⟩:=n;exact⟨e,o,rfl,b,m,v h fun c o x f=>q c o (fun z=>x (by simp [z])) (fun z=>x (by simp [z])) f⟩
 .exact xX u n r g t l i (by grind) (by grind) fun h e q ⟨o,b,m⟩=>⟨e,o,rfl,b,m,v h fun c o x f=>q c o (fun z=>x (by simp [z])) (fun z=>x (by simp [z])) f⟩
end
section
variable {prog:Program}{w:World}{K:Type} [DecidableEq K] {t:KeyKind prog w K}{A:Around}{E:VP}{R:Result->Shared->Prop}
inductive ZipsAt (knd:KeyKind prog w K):LV->LV->List (K×Value)->Prop
 | nil {vs:LV}:ZipsAt knd [] vs []
 | cons {key v:Value}{k:K}{us vs:LV}{kvs:List (K×Value)}:knd.is k key=true->ZipsAt knd us vs kvs->ZipsAt knd (key::us) (v::vs) ((k,v)::kvs)
theorem uS (hh:A.handled=none) {n:Heap} (p:ZAp d z TI TO i1 i2 l1 l2) (fr:∀c ∈ [d,z,TI,TO,i1,i2],n.get? c=none) (G:n.IsList l1 g) (hl2:n.IsTuple l2 ys) :
  ∀(ck:List (K×Value)) (i:Nat) (a:List (K×Value)) (s:Shared),(∀b o,n.get? b=some o->s.heap.get? b=some o)->B0 d s.heap z TI TO i1 i2 l1 l2 i->s.heap.DictOf t d a->ZipsAt t (g.toList.drop i) (ys.toList.drop i) ck ->
   ((a++ck).map (·.1)).Nodup->(a++ck).length≤sizeLine->i+ck.length=g.size ->
   (∀u t',(∀b o,n.get? b=some o->u.get? b=some o)->u.DictOf t d (a++ck)->R (.ok (.ret .none)) { s with heap:=u,toks:=t' }) ->
   codeAny (model prog w) A (.builtin "dict.update.loop" ⟨[.ref d,.ref z,rawInt i,.none],[]⟩) R s:=by
 have nd:=p.nd;simp only [List.nodup_cons,bj,dU,dS,not_or] at nd;have H:∀b o,n.get? b=some o->b ∉ [d,z,TI,TO,i1,i2]:=fun b o e m=>by rw [fr b m] at e;cases e
 have dz:d ∉ [z,TO,i1,i2]:=by simp only [bj,dU,dS,not_or];grind
 intro ck;induction ck with
 | nil=>
  intro i a s S j hd Q J U hi h;have E:g[i]? = none:=by simp at hi ⊢;lia
  have l:s.heap.IsList l1 g:=by obtain⟨o,y,r⟩:=G;exact⟨o,S _ _ y,r⟩
  refine codeAny_builtin F.entry_dict_update_loop ?_;rw [Around.under_plainId F.plain_dict_update_loop _];unfold Builtin.«dict.update.loop»;show wpAny _ A.in1 (pyNext (.ref z) >>= _) _ _ s;refine wpAny_bind (Au hh p j l E fun u P=>?_);show wpAny _ A.in1 (Builtin.Dict.addKeywords d [] >>= _) _ _ _;rw [List.append_nil] at h;apply wpAny_bind;apply wpAny_pure;apply wpAny_pure;refine h u s.toks (fun b o e=>P b o (fun m=>H b o e (by simp only [bj,dU,dS] at m ⊢;grind)) (S b o e)) ?_;obtain⟨o,N,ep,y,r⟩:=hd;exact⟨o,N,ep,P _ _ dz y,r⟩
 | cons kv ck ih=>
  intro i a s S j hd Q J U hi h;have l:s.heap.IsList l1 g:=by obtain⟨o,y,r⟩:=G;exact⟨o,S _ _ y,r⟩
  have I:s.heap.IsTuple l2 ys:=by obtain⟨o,y,r⟩:=hl2;exact⟨o,S _ _ y,r⟩
  generalize er:g.toList.drop i=us at Q;generalize N:ys.toList.drop i=vs at Q;cases Q with
  | cons hk hps=>
   rename_i B v k us' vs';have hx:g[i]? = some B:=by have:=congrArg (·[0]?) er;simpa using this
   have hy:ys[i]? = some v:=by have:=congrArg (·[0]?) N;simpa using this
   have X:g.toList.drop (i+1)=us':=by rw [<- List.drop_drop,er];rfl
   have Y:ys.toList.drop (i+1)=vs':=by rw [<- List.drop_drop,N];rfl
   obtain⟨od,V,W,L,hdr⟩:=id hd;refine codeAny_builtin F.entry_dict_update_loop ?_;rw [Around.under_plainId F.plain_dict_update_loop _];unfold Builtin.«dict.update.loop»;show wpAny _ A.in1 (pyNext (.ref z) >>= _) _ _ s;refine wpAny_bind (xZ p j L l I hx hy fun O T za f hTd P=>?_);have kp1:∀b o,n.get? b=some o->O.get? b=some o:=fun b o e=>P b o (fun m=>H b o e (by simp only [bj,dU,dS] at m ⊢;grind)) (S b o e);have hd1:O.DictOf t d a:=⟨od,V,W,P _ _ dz L,hdr⟩;show wpAny _ A.in1 (holding [Value.ref T] _ >>= _) _ _ _;apply wpAny_bind;apply wpAny_holding;apply wpAny_bind;apply wpAny_tryCatch;unfold Builtin.Dict.pairItems;refine wpAny_bind (kn (T:="tuple") ⟨_,f,rfl⟩ ?_);rw [if_pos (by decide)];refine wpAny_bind (wpAny_seqItems (show O.get? T=some _ from f) rfl (wpAny_pure ?_));show wpAny _ A.in1 (holding [B,v] (dictSet d B v)) _ _ _;refine wpAny_holding ?_;refine wpAny_dictSet_pairs (s:={ s with heap:=O }) hk hd1 (fun h2 D M=>?_) (by simp at U;lia);have hnk:k ∉ a.map (·.1):=by intro hm;rw [List.map_append,List.nodup_append] at J;exact J.2.2 _ hm _ (by simp) rfl
   have Z:stored a k v=a++[(k,v)]:=by unfold stored;rw [if_neg];intro C;obtain⟨x,hx1,hx2⟩:=pJ.mp C;exact hnk (bA.mpr ⟨x,hx1,of_decide_eq_true hx2⟩)
   rw [Z] at D;refine wpAny_pure ⟨plainId_quiet F.plain_dict_update_loop _,?_⟩;have kp2:∀b o,n.get? b=some o->h2.get? b=some o:=fun b o e=>M.extBut _ _ (fun q=>H b o e (by simp [q])) (kp1 b o e);have e1:a++(k,v)::ck=(a++[(k,v)])++ck:=by simp
   rw [e1] at J U h;exact ih (i+1) (a++[(k,v)]) { s with heap:=h2,toks:=s.toks+1 } kp2 (za.but p M) D (X ▸ Y ▸ hps) J U (by simp at hi;lia) fun u t' k1 k2=>h u t' k1 k2
end
section
variable {prog:Program}{w:World}{K:Type} [DecidableEq K] {t:KeyKind prog w K}{A:Around}{E:VP}{s:Shared}
theorem tK (l:s.heap.IsList n I) (e:s.heap.IsTuple q M)
  (h:∀x i a TI TO z,(∀b o,s.heap.get? b=some o->x.get? b=some o)->s.heap.objs.size≤i->i < a->a < TI->TI < TO->TO < z->x.IsListIter i n 0->x.IsTupleIter a q 0->eO x TI (.ref i) (.ref a)->eO x TO .none .none ->
   fQ x z TI TO .none (.bool false)->Q (.ref z) { s with heap:=x }):wpAny (model prog w) A (call (.type "zip") [.ref n,.ref q]) Q E s:=by
 refine callType_new F.called_zip (by decide) (F.typeCall_zip_2 _ _) (F.newCall_zip_2 _ _) (fun j=>F.args_object_init_3 j _ _) F.entry_zip_new (xW n q I M) ⟨l,e,fun x i a TI TO z k c m r t p v d u g f=>?_⟩;show _/\_;exact⟨⟨_,f,rfl⟩,h x i a TI TO z k c m r t p v d u g f⟩
theorem oS {x:Heap} (hh:A.handled=none) (k0:∀b o,x.get? b=some o->s.heap.get? b=some o) (j:x.IsList l1 xs) (y:x.IsTuple l2 ys)
  (u:x.objs.size≤I) (P:I < M) (B:M < TI) (S:TI < TO) (g:TO < z) (b1:s.heap.IsListIter I l1 0) (b2:s.heap.IsTupleIter M l2 0) (b3:eO s.heap TI (.ref I) (.ref M)) (b4:eO s.heap TO .none .none) (i:fQ s.heap z TI TO .none (.bool false))
  (hp:ZipsAt t xs.toList ys.toList C) (hn:(C.map (·.1)).Nodup) (hz:C.length≤sizeLine) (hi:C.length=xs.size)
  (h:∀f R,(∀b o,x.get? b=some o->f.get? b=some o)->f.DictOf t s.heap.objs.size C->Q (.ref s.heap.objs.size) { s with heap:=f,toks:=R }) :
  wpAny (model prog w) A (call (.type "dict") [.ref z]) Q E s:=by
 have fresh:(s.heap.push { cls:=.type "dict",data:=.dict #[] }).DictOf t s.heap.objs.size []:=.new s.heap;have d:∀b o,s.heap.get? b=some o->(s.heap.push { cls:=.type "dict",data:=.dict #[] }).get? b=some o:=fun b o=>Heap.get?_push_of_some _;have k:z < s.heap.objs.size:=Heap.lt_size i;have H:=kt_code_dict_new (prog:=prog) (w:=w) (A:=A.in1) (E:=E) (s:=s) (Value.ref z) (Q₁:=fun v z=>v=.ref s.heap.objs.size/\z={ s with heap:=s.heap.push { cls:=.type "dict",data:=.dict #[] } }) ⟨rfl,rfl⟩;apply callType_codes F.kt_called_dict (F.kt_typeCall_dict_1 (.ref z)) F.entry_dict_init H;rintro _ _ ⟨e,e'⟩;subst e e';generalize s.heap.push { cls:=.type "dict",data:=.dict #[] }=h1 at fresh d;refine⟨fresh.typeIs,F.args_dict_init_2 (.ref s.heap.objs.size) (.ref z),?_⟩;unfold Builtin.«dict.__init__» Builtin.Dict.selfAndRest;apply wpAny_bind;apply wpAny_bind;apply wpAny_notOrdered_dict fresh.typeIs;apply wpAny_pure;show wpAny _ _ (Builtin.Dict.updateFrom "dict.__init__" s.heap.objs.size (.ref z) [] .none) _ _ _;unfold Builtin.Dict.updateFrom;refine wpAny_bind (kn (T:="zip") ⟨_,d _ _ i,rfl⟩ ?_);rw [if_pos (by decide)];refine wpAny_bind (wy (d _ _ i) hh fun Z tk k2=>?_);rw [if_pos (by rfl)];refine wpAny_bind (wpAny_rule ?_);have q:∀b o,s.heap.get? b=some o->Z.get? b=some o:=fun b o e=>k2 b o (d b o e);have G:Z.DictOf t s.heap.objs.size []:=by obtain⟨o,N,ep,ho,r⟩:=fresh;exact⟨o,N,ep,k2 _ _ ho,r⟩
 refine wpAny_bind (wpAny_pyIter_zip (z:=z) (TI:=TI) (TO:=TO) (f0:=.none) (q _ _ i) ?_);refine wpAny_pure ⟨plainId_quiet F.plain_dict_update_loop _,?_⟩;have L:l1 < x.objs.size:=by obtain⟨o,e,_⟩:=j;exact Heap.lt_size e
 have O:l2 < x.objs.size:=by obtain⟨o,e,_⟩:=y;exact Heap.lt_size e
 have n:∀{a b c:Nat},a < b->b < c->a < c:=fun h f=>kW h f;have J:=n P B;have U:=n J S;have D:=n U g;have V:=n D k;have W:=n B S;have X:=n W g;have c7:=n X k;have Y:=n S g;have c9:=n Y k;have ca:=n g k;have low:∀{l c:Nat},l < x.objs.size->x.objs.size≤c->l≠c:=fun h f=>bo (cj h f);have ge:∀c ∈ [s.heap.objs.size,z,TI,TO,I,M],x.objs.size≤c:=fun c K=>by
  simp only [bj,dU,dS] at K;rcases K with rfl | rfl | rfl | rfl | rfl | rfl
  .exact aM u (ip V)
  .exact aM u (ip D)
  .exact aM u (ip J)
  .exact aM u (ip U)
  .exact u
  .exact aM u (ip P)
 have p:ZAp s.heap.objs.size z TI TO I M l1 l2:=by refine⟨?_,fun m=>low L (ge _ m) rfl,fun m=>low O (ge _ m) rfl⟩;simp only [List.nodup_cons,bj,dU,dS,not_or,List.nodup_nil,not_false_eq_true,i9];exact⟨⟨Nat.ne_of_gt k,Nat.ne_of_gt c9,Nat.ne_of_gt ca,Nat.ne_of_gt V,Nat.ne_of_gt c7⟩,⟨Nat.ne_of_gt Y,Nat.ne_of_gt g,Nat.ne_of_gt D,Nat.ne_of_gt X⟩,⟨bo S,Nat.ne_of_gt J,Nat.ne_of_gt B⟩,⟨Nat.ne_of_gt U,Nat.ne_of_gt W⟩,bo P⟩
 refine uS (A:=A.in1) (t:=t) (n:=x) hh p (fun c K=>?_) j y C 0 [] _ (fun b o e=>q b o (k0 b o e)) ⟨q _ _ b3,?_,?_,.inl ⟨rfl,q _ _ i,q _ _ b4⟩⟩ G (by simpa using hp) (by simpa using hn) (by simpa using hz) (by lia) fun f R q1 q2=>?_
 .cases e:x.get? c with
  | none=>rfl
  | some o=>exact absurd rfl (low (Heap.lt_size e) (ge c K))
 .obtain⟨o,e,r⟩:=b1;exact⟨o,q _ _ e,r⟩
 .obtain⟨o,e,r⟩:=b2;exact⟨o,q _ _ e,r⟩
 .exact⟨rfl,h f R q1 q2⟩
end
end PySem
namespace Ev
open PySem PySem.Spec PyProof.Rows L2
noncomputable def qP (Y v:EV):EE:=fun L S=>aF (Y L S) fun x a=>aF (v L a) fun y h=>match x,y with
 | .lst k,.tup s=>match cn k with
  | some B=>if (B.Nodup/\few k=true/\B.length≤s.length) then some (.ref h.length,h++[.dct B ((s.take B.length).map .p)]) else none
  | none=>none
 | _,_=>none
theorem va:∀{B:List bz}{s i:LV}{x:List V},aL (B.map kV) s->aL x i->B.length≤x.length->ZipsAt (bN g w) s i (B.zip i)/\L2.KV (B.zip x) (B.zip i)
 | [],_,i,x,h,_,_=>by cases h;exact⟨.nil,.nil⟩
 | k::B,_,_,[],h,_,l=>absurd l (by simp)
 | k::B,_,_,y::x,h,e,l=>by
  cases h with
  | cons r t=>
   cases e with
   | cons n f=>obtain⟨a,b⟩:=va (g:=g) (w:=w) t f (by simpa using l);exact⟨.cons (lO r) a,.cons ⟨rfl,n⟩ b⟩
theorem k5:∀{xs:List L}{ys:List n},xs.length≤ys.length->(xs.zip ys).map (·.1)=xs/\(xs.zip ys).map (·.2)=ys.take xs.length
 | [],ys,_=>by simp
 | x::xs,[],h=>absurd h (by simp)
 | x::xs,y::ys,h=>by obtain⟨a,b⟩:=k5 (xs:=xs) (ys:=ys) (by simpa using h);simp [a,b]
section
variable {X:Cx}{a b:Expr}{Y v:EV}{p G J U:Pos}
theorem CN (hc:X.calm=true) (gd:Gl X "dict") (md:X.mg "dict"=none) (gz:Gl X "zip") (mz:X.mg "zip"=none) (ha:PE X a (tV X.K Y)) (hb:PE X b (tV X.K v)) (hs:starEach [a,b] X.env=[(false,eval a X.env),(false,eval b X.env)]) (T:starEach [b] X.env=[(false,eval b X.env)]) (hz:bootBuiltins "zip"=some (.type "zip")) :
  PE X (.Call (.Name "dict" p) [.Call (.Name "zip" G) [a,b] [] U] [] J) (tE X.K (qP Y v)):=by
 intro pins s σ H Q I ⟨F,m,L,S,d,S',r,l,q,k⟩;obtain⟨x,S1,e1,q⟩:=ah q;obtain⟨y,S2,e2,q⟩:=ah q;have hh:X.A.handled=none:=I.ok.hd hc;refine kX (jo I gd md PyProof.Rows.boot_dict ?_ (by decide) (by decide));refine k4 (Calls.spliced_cons ?_) rfl rfl;refine kX (jo I gz mz hz ?_ (by decide) (by decide));refine k4 ?_ (by rw [hs,T]) (by rw [T];rfl);rw [hs];refine Calls.spliced_cons (cK (ha pins s σ H (fun h g=>∃n P,Stp F m H n P g/\Rel X.K n g P S1/\RP X.K n g x h) I ⟨F,m,L,S,x,S1,r,l,e1,fun h n P g s1 r1 p1=>⟨n,P,s1,r1,p1⟩⟩) fun u s1 ⟨h,g,I1,ru,n,P,Z,r1,p1⟩=>
  Calls.spliced_cons (cK (hb pins s1 σ g (fun h C=>∃f D,Stp n P g f D C/\Rel X.K f C D S2/\RP X.K f C y h) I1 ⟨n,P,L,S1,y,S2,r1,l.mono Z,e2,fun h f D C E r2 G=>⟨f,D,E,r2,G⟩⟩) fun u2 E ⟨v2,C,M,ru2,f,D,st2,r2,G⟩=>j1 ?_))
 cases x with
 | lst ks=>
  cases y with
  | tup vs=>
   dsimp only at q;cases ek:cn ks with
   | none=>rw [ek] at q;cases q
   | some B=>
    rw [ek] at q;dsimp only at q;split at q
    .rename_i c;cases q;obtain⟨ax,xs,rfl,hq,rp⟩:=RP.mono st2 p1;obtain⟨ay,ys,rfl,ta,rq⟩:=G;cases (show u=Value.ref ax from ru);cases (show u2=Value.ref ay from ru2);obtain⟨z1,V,n1,rx,R,ex⟩:=M.lstM hq.2;obtain⟨i,ry,W,hzy⟩:=M.tuple ta.sq;have exs:=hZ ek rp;subst exs;have K:B.length≤ys.length:=by rw [<- rq.length];exact c.2.2
     obtain⟨za,zk⟩:=va (g:=X.prog) (w:=X.w) rx ry K;have hl2:B.length≤i.length:=by rw [<- ry.length];exact K
     obtain⟨zf1,zf2⟩:=k5 (xs:=B) (ys:=ys) K;obtain⟨A,_⟩:=k5 (xs:=B) (ys:=i) hl2;have N:(B.zip i).length=V.toArray.size:=by have:=congrArg List.length A;rw [b8] at this;rw [this,List.size_toArray,<- R,b8]
     have hkz:(B.zip i).length≤sizeLine:=by rw [N,List.size_toArray,<- R];exact z1
     have O:E.heap.IsList ax V.toArray:=⟨_,ex,rfl,n1,rfl⟩;refine tK O W fun e i1 i2 TI TO z k0 a1 a2 a3 a4 a5 b1 b2 b3 b4 b5=>j1 ?_;refine oS (t:=bN X.prog X.w) (s:={ E with heap:=e }) (x:=E.heap) hh k0 O W a1 a2 a3 a4 a5 b1 b2 b3 b4 b5 (by simpa using za) (by rw [A];exact c.1) hkz N fun h'' t' k1 dd=>?_;have j:E.heap.objs.size≤e.objs.size:=ip (kY a1 (kW a2 (kW a3 (kW a4 (kW a5 (Heap.lt_size b5))))));have hf:C e.objs.size=none:=M.hok.fresh j;have hsm:(e.objs.size == sysModules)=false:=by have:=M.big;simp only [j4];exact Nat.ne_of_gt (cj this j)
     have hkv:(B.zip ys).length≤sizeLine:=by have e1:=congrArg List.length zf1;have e2:=congrArg List.length A;rw [b8] at e1 e2;lia
     have I3:=M.laid (a:=e.objs.size) (o:=.dK (B.zip ys)) (t':=t') k1 j ⟨hkv,hsm,_,zk,dd⟩;refine⟨.ref e.objs.size,_,I3,rfl,k (.ref e.objs.size) f (D++[e.objs.size]) _ (Z.trans (st2.trans (gg hf))) (r2.own hf ⟨_,aE,zf1,?_⟩) ⟨e.objs.size,rfl,?_⟩⟩
     .rw [zf2,List.map_take];exact (dj.mono (gg hf) (dj.ofP rq)).take _
     .rw [<- r2.len,fV (Nat.le_refl _)];simp
    .cases q
  | _=>cases q
 | _=>cases y <;> cases q
end
end Ev
namespace PySem
open PySem PyProof.Rows
section
variable {prog:Program}{w:World}{A:Around}{E:VP}{s:Shared}
theorem xB (g:A.handled=none) (n t:Addr) (k:t≠n) (m:Array Value):Draws prog w A n [n,t] m.size (fun i v=>m[i]? = some v) (fun i h=>h.IsTupleIter n t i/\h.IsTuple t m) where
 live:=fun _ _ st=>by obtain⟨⟨o,j,_⟩,_⟩:=st;exact⟨o,j⟩
 frame:=fun _ _ _ st r=>⟨st.1.at fun o e=>r n (by simp) o e,st.2.at fun o e=>r t (by simp) o e⟩
 item:=fun i s Q E f st u=>by obtain⟨a,b⟩:=st;exact m_ a b (x:=m[i]) (by simp [f]) fun q c p=>u _ q s.toks (by simp [f]) ⟨c,b.extBut p.extBut k⟩ p
 done:=fun s Q E st d=>by obtain⟨a,b⟩:=st;exact ko g a b (by simp) d
theorem xD (f:A.handled=none) (c:q[n]? = none):Draws prog w A d [d,k] n (fun _ _=>True) (fun j h=>j=n/\h.IsTupleIter d k n/\h.IsTuple k q) where
 live:=fun _ _ st=>by obtain⟨_,⟨o,m,_⟩,_⟩:=st;exact⟨o,m⟩
 frame:=fun _ _ _ st x=>⟨st.1,st.2.1.at fun o e=>x d (by simp) o e,st.2.2.at fun o e=>x k (by simp) o e⟩
 item:=fun i s Q E b st _=>absurd st.1 (bo b)
 done:=fun s Q E st a=>ko f st.2.1 st.2.2 c a
theorem qf {h:Heap} (t:h.IsTuple n k) (e:h.IsTupleIter q n i):n≠q:=fun z=>by subst z;obtain⟨o,s,a,_⟩:=t;obtain⟨f,x,c,_⟩:=e;rw [s] at x;cases x;rw [a] at c;simp at c
theorem qg {i:Int} (t:h.IsTuple n k) (s:IsEnum h e q i x):e≠n:=fun z=>by subst z;obtain⟨o,a,c,_⟩:=t;rw [show h.get? e=_ from s] at a;cases a;simp at c
theorem xu (t:Addr) (r:Array Value):Meets (Builtin.«enumerate.__new__» ⟨[.type "enumerate",.ref t],[]⟩) (fun _ R s=>s.heap.IsTuple t r /\
  ∀a,IsEnum a (s.heap.objs.size+1) s.heap.objs.size 0 .none->a.IsTupleIter s.heap.objs.size t 0->a.objs.size=s.heap.objs.size+2->(∀b o,s.heap.get? b=some o->a.get? b=some o)->R (.ok (.ret (.ref (s.heap.objs.size+1)))) { s with heap:=a }):=
 .of_wp fun prog w A R s h=>by
  obtain⟨p,g,d,H,os⟩:=s;obtain⟨m,h⟩:=h;have u:=sub_enumerate;obtain⟨⟨S,i,j,y⟩,l,e,n,hd⟩:=id m;dsimp only at e hd;subst e hd;have T:Heap.IsTuple (Shared.heap ⟨p,g,d,H,os⟩) t r:=m
  wp_walk using qd l
  let k:Obj:={ cls:=.type "tuple_iterator",data:=.fields #[.ref t,.int 0 0] }
  let v:Obj:={ cls:=.type "enumerate",data:=.fields #[.none,.bool false,.ref p.objs.size,rawInt 0,.none,.none] }
  have z:(p.push k).objs.size=p.objs.size+1:=Heap.size_push ..;have q:IsEnum ((p.push k).push v) (p.objs.size+1) p.objs.size 0 .none:=by rw [<- z];exact Heap.get?_push_size _ rfl
  have f:=h _ q ⟨_,Heap.get?_push_of_some _ (Heap.get?_push_size _ rfl),rfl,rfl⟩ ((Heap.size_push ..).trans (by rw [z])) fun b o x=>Heap.get?_push_of_some _ (Heap.get?_push_of_some _ x);rw [show Array.size p.objs+1=(p.push k).objs.size from z.symm] at f;apply wpAny_stack_any;intro st;apply wpAny_pure;split
  .rename_i c _ _ _ _ _;rcases c == Value.type "enumerate" with _ | _;all_goals
    wp_walk using qd l,wpAny_pyIter_tuple T
    exact⟨_,rfl,f⟩
  .wp_walk using qd l,wpAny_pyIter_tuple T
   exact⟨_,rfl,f⟩
theorem uZ (t:s.heap.IsTuple n q)
  (h:∀x,IsEnum x (s.heap.objs.size+1) s.heap.objs.size 0 .none->x.IsTupleIter s.heap.objs.size n 0->x.objs.size=s.heap.objs.size+2->(∀b o,s.heap.get? b=some o->x.get? b=some o)->Q (.ref (s.heap.objs.size+1)) { s with heap:=x }) :
  wpAny (model prog w) A (call (.type "enumerate") [.ref n]) Q E s:=callType_new F.called_enumerate (by decide) (F.typeCall_enumerate_1 _) (F.newCall_enumerate_1 _) (fun j=>F.args_object_init_2 j _) F.entry_enumerate_new (xu n q) ⟨t,fun x e i z k=>⟨⟨_,e,rfl⟩,h x e i z k⟩⟩
end
end PySem
namespace Ev
open PySem PySem.Spec PyProof.Rows L2
section
variable {X:Cx}{O:Pos}
noncomputable def HK (K:FG) (a:Addr):It:=
 ⟨fun i H=>∃s x,kT K H a s/\s[i]? = some x,fun i H x h=>∃p y,x=.ref p/\H p=none/\h=cc H p (.tup [.int i,y])/\∀s,kT K H a s->s[i]? = some y,fun i H=>∃s,kT K H a s/\s.length≤i⟩
theorem uh {P:Program}{w:World}{K:FG}{N:Ab}{n:Nat} (a e p:Addr) (L:e≠p):Turn P w K (.Tuple N n O) (HK K a) [e,p] e (fun i h=>(∃l,IsEnum h e p i l)/\h.IsTupleIter p a i) where
 mem:=by simp
 obj:=fun i h st b j=>by
  obtain⟨⟨l,F⟩,⟨o,ho,c,d⟩⟩:=st;have:b=e\/b=p:=by simpa using j
  rcases this with rfl | rfl
  .exact⟨_,F,fun v z=>by have z':Data.fields _=Data.cell v:=z;cases z'⟩
  .exact⟨o,ho,fun v z=>by rw [d] at z;cases z⟩
 keep:=fun i h h' st k=>by obtain⟨⟨l,F⟩,g⟩:=st;exact⟨⟨l,k e (by simp) _ F⟩,g.at fun o q=>k p (by simp) o q⟩
 item:=by
  intro X hP hw hK f i pins s σ H E I Y st hg;subst hP hw hK;obtain⟨xs,x,Z,hx⟩:=hg;obtain⟨J,rv,pl,hz⟩:=I.tuple Z;obtain⟨u,hu,ru⟩:=rv.get hx;obtain⟨⟨l,F⟩,g⟩:=st;obtain⟨f0,f1,f2,f3,f4,f5⟩:=Y e (by simp);obtain⟨U,V,g2,g3,g4,g5⟩:=Y p (by simp);have T:s.heap.IsTuple a J.toArray:=pl;have hai:=qf T g;have hae:=qg T F;have D:=xB (prog:=X.prog) (w:=X.w) (A:=X.A.in1) (I.ok.hd f) p a hai J.toArray;refine wpAny_pyNext_enum_itemD D F ⟨g,T⟩ (by simpa using (List.getElem?_eq_some_iff.mp hu).1) L (by simp [L,hae]) fun u2 h1 tk R ho1 B ht1 hz1 hk1=>?_
  obtain⟨B,_⟩:=B;have hu3:u2=u:=by simp [hu] at R;exact R.symm
  subst hu3;refine⟨_,rfl,wpAny_letOwnedTupleGo_enum (s:={ s with heap:=h1,toks:=tk+1 }) ho1 fun W he2 G=>?_⟩;replace G:Heap.SameBut e h1 W:=G;have M:e < s.heap.objs.size:=Heap.lt_size F;have C:∀b o,b≠e->b≠p->s.heap.get? b=some o->W.get? b=some o:=fun b o b1 b2 q=>(G.2 b b1).trans (hk1 b o b1 b2 q)
  have Q:W.get? s.heap.objs.size=some { cls:=.type "tuple",data:=.seq #[.int i tk,u2] }:=(G.2 _ (Nat.ne_of_gt M)).trans ht1;have S:H s.heap.objs.size=none:=I.hok.fresh (Nat.le_refl _);have ne:∀{b:Addr}{o:HO},H b=some o->b≠e/\b≠p:=fun {b o} q=>⟨fun z=>(by rw [z,f0] at q;cases q),fun z=>(by rw [z,U] at q;cases q)⟩;have y:∀b,b ∉ [e,p]->b≠e/\b≠p:=fun b j=>⟨fun z=>j (by simp [z]),fun z=>j (by simp [z])⟩;have I':Inv X pins σ (cc H s.heap.objs.size (.tup [.int i,x])) { s with heap:=W,gens:=s.gens,drawn:=s.drawn,toks:=tk+1 }:=by
   refine I.step (ch:=[e,p]) (fun b j=>?_) (fun b o _ _ f q _=>C b o (y b f).1 (y b f).2 q) (fun b o _ _ f q _=>⟨o.slots,C b o (y b f).1 (y b f).2 q⟩) (fun b o _ q n=>?_) (fun b o f q=>⟨o,C b o (y b f).1 (y b f).2 q⟩)
    (fun b ys q=>?_) (fun b o ys q=>?_) (fun b ps q=>⟨#[],?_⟩) (fun m hm=>?_) (fun b u' q=>?_) I.bare
   .have:b=e\/b=p:=by simpa using j
    rcases this with rfl | rfl
    .exact⟨f3,f1,f4,f5⟩
    .exact⟨g3,V,g4,g5⟩
   .rw [am (bo (Heap.lt_size q))];exact n
   .rw [am (be q S)];exact q
   .rw [am (be q S)];exact q
   .rw [am (be q S),q];simp
   .obtain⟨o,N,ep,ho,r⟩:=hm;exact⟨o,N,ep,C _ o (Ne.symm f1) (Ne.symm V) ho,r⟩
   .by_cases j:b=s.heap.objs.size
    .subst j;rw [aE] at q;cases q;exact⟨by show 2≤sizeLine;decide,[.int i tk,u2],.cons ⟨_,rfl⟩ (.cons ru .nil),⟨_,Q,⟨rfl,_,rfl⟩,rfl⟩⟩
    .rw [am j] at q;refine (I.hok b u' q).stay (fun c v f z=>C c v ?_ ?_ z) (fun c z=>by rw [am (be z S)];exact z) fun c ys z=>by rw [am (be z S)];exact z
     .rcases f with rfl | f
      .exact (ne q).1
      .exact (ne f).1
     .rcases f with rfl | f
      .exact (ne q).2
      .exact (ne f).2
  refine⟨.ref s.heap.objs.size,_,I',rfl,⟨s.heap.objs.size,x,rfl,S,rfl,fun ys hy=>by rw [I.tuple_inj hy Z];exact hx⟩,⟨⟨u2,by simpa using he2⟩,B.at fun o q=>(G.2 p (Ne.symm L)).trans q⟩,fun b j=>?_⟩;have hb':b=e\/b=p:=by simpa using j
  obtain⟨oi,hoi,_⟩:=id g;rcases hb' with rfl | rfl
  .rw [am (bo M)];exact f0
  .rw [am (bo (Heap.lt_size hoi))];exact U
 done:=by intro X hP hw hK f i pins s σ H E I Y st hg;subst hP hw hK;obtain⟨xs,Z,hx⟩:=hg;obtain⟨J,rv,pl,hz⟩:=I.tuple Z;obtain⟨⟨l,F⟩,g⟩:=st;obtain⟨U,V,g2,g3,g4,g5⟩:=Y p (by simp);have hl:=rv.length;have T:s.heap.IsTuple a J.toArray:=pl;exact wpAny_pyNext_enum_endD (xD (prog:=X.prog) (w:=X.w) (A:=X.A.in1) (I.ok.hd f) (d:=p) (k:=a) (q:=J.toArray) (n:=i) (by simp;lia)) F ⟨rfl,g,T⟩ fun h' eb=>⟨rfl,I.turned (t':=s.toks) (fun b o j e=>eb b o j e) U V g3 g4 g5⟩
 self:=fun _ _ _ _ _ st h=>by obtain⟨⟨l,F⟩,_⟩:=st;exact wpAny_pyIter_enum F h
theorem Bz {K:FG}{F:Aa}{m:List Addr}{H:Hp}{a:Addr}{c:List P}{s:List V} (w:∀h k n,Stp F m H h k n->kT K n a s) (r:ci K F H c s):B3 K (HK K a) (aR 0 c) F m H:=by
 intro h k n st;have q:=w h k n st;have l:=r.length;refine⟨fun i v e=>?_,⟨s,q,by rw [cf,l];exact Nat.le_refl _⟩⟩;obtain⟨d,t,rfl⟩:=jG e;obtain⟨x,f,p⟩:=r.get t;refine⟨⟨s,x,q,f⟩,fun z g y=>?_⟩;obtain⟨j,y,rfl,b,rfl,u⟩:=y;have:y=x:=by have:=u s q;rw [f] at this;cases this;rfl
 subst this;refine⟨h,bU b,RP.newTup b ⟨_,_,rfl,?_,_,_,rfl,RP.mono st p,rfl⟩⟩;show V.int (i:Int)=V.int (0+(i:Int));rw [c8]
noncomputable def gO (a:EV):fS:=fun L S=>aF (a L S) fun v h=>match v with
 | .lst x=>some (aR 0 x,h)
 | .ro x=>some (aR 0 x,h)
 | .tup x=>some (aR 0 x,h)
 | _=>none
theorem Lw {N:Ab}{n:Nat}{a:Expr}{Y:EV}{p c:Pos} (K:Gl X "enumerate") (A:X.mg "enumerate"=none) (y:PE X a (tV X.K Y)) (g:starEach [a] X.env=[(false,eval a X.env)]):PI X (.Tuple N n O) (.Call (.Name "enumerate" p) [a] [] c) (tI X.K (gO Y)):=by
 intro pins s σ H R I ⟨F,m,L,S,T,E,r,l,q,k⟩;obtain⟨v,G,j,q⟩:=ah q;cases v with
 | lst w=>exact iE K A y g pins s σ H R I ⟨F,m,L,S,T,E,r,l,by unfold J0;rw [j];exact q,k⟩
 | ro w=>exact iE K A y g pins s σ H R I ⟨F,m,L,S,T,E,r,l,by unfold J0;rw [j];exact q,k⟩
 | tup w=>
  have U:PA X [a] (nh X.K (aH Y aN)):=An y BZ (by rw [g];rfl);refine Call_ (jo I K A boot_enumerate (k4 (cK (U c pins s σ H (fun i x=>∃e f,Stp F m H e f x/\Rel X.K e x f G/\ci X.K e x [.tup w] i) I ⟨F,m,L,S,[.tup w],G,r,l,?_,fun i e f x h D C=>⟨e,f,h,D,C⟩⟩) fun us h ⟨i,x,t,M,e,f,st,D,C⟩=>?_) (by rw [g];rfl) rfl))
  .simp only [aH,aN,j,aw]
  obtain⟨x1,rfl,px⟩:=qt C;obtain⟨u,rfl,ru⟩:=vals1 M;cases q;obtain⟨b,i,rfl,Q,ra⟩:=px;have Z:=k _ e f x st D (Bz (fun F2 m2 H2 s=>(Q.kp s.kp).sq) ra);cases ru;obtain⟨B,M,pl,hz⟩:=t.tuple Q.sq;refine uZ (show h.heap.IsTuple b B.toArray from pl) fun h' J P W V=>?_;refine wpAny_pyIter_enum J ?_;have d:∀b,h.heap.objs.size≤b->x b=none:=fun b z=>t.hok.fresh z;refine⟨h.heap.objs.size+1,[h.heap.objs.size+1,h.heap.objs.size],_,_,x,rfl,t.kept (t':=h.toks) V,uh b _ _ (Nat.ne_of_gt (Nat.lt_succ_self _)),⟨⟨_,J⟩,P⟩,fun b z=>?_,Z⟩;have o:b=h.heap.objs.size+1\/b=h.heap.objs.size:=by simpa using z
  rcases o with rfl | rfl
  .exact t.fpOk (kU _) (d _ (kU _))
  .exact t.fpOk (Nat.le_refl _) (d _ (Nat.le_refl _))
 | _=>cases q
end
end Ev
namespace Ev
open PySem PySem.Spec PyProof.Rows L2
noncomputable def pureOf (g:GF) (ps:List P):Option P:=match g (ps.map .p) [] with
 | some (d,S)=>(toP 9 d S).map (·.1)
 | none=>none
noncomputable def cJ (p n:Nat) (b:ES):GF:=fun s S=>if s.length=p then match b (s.map some++List.replicate (n-s.length) none) S with
 | some (.rt d,_,h)=>some (d,h)
 | some (.nx,_,h)=>some (.p .non,h)
 | _=>none else none
variable {K:FG}{F:Aa}{H:Hp}
theorem Rel.nil (f:∀a,F a->H a≠none):Rel K F H [] []:=⟨rfl,by simp,by simp,by simp,by simp,f⟩
theorem ni (h:HW K (pureOf g) y H s b):ol K g y H s b:=by
 obtain⟨F,n,d,t,r,q,k⟩:=h;unfold pureOf at q;cases e:g (n.map .p) [] with
 | none=>rw [e] at q;cases q
 | some z=>
  obtain⟨a,S⟩:=z;rw [e] at q;dsimp only at q;cases x:toP 9 a S with
  | none=>rw [x] at q;cases q
  | some o=>obtain⟨p,A⟩:=o;rw [x] at q;cases q;refine⟨F,[],n.map .p,[],a,S,.nil t,dj.ofP r,e,fun v P B c j w i=>?_⟩;obtain⟨f,l,u,_,m⟩:=ng 9 x w i;exact k v f c ((j.trans l).toGrow u.ft) m
theorem FnOk.pure (G:FnOk s w K b base pI k f d ps (ol K g)):FnOk s w K b base pI k f d ps (HW K (pureOf g)):=
 FnOk.imp G fun _ _ _ _ h=>ni h
theorem dj.toSt (r:dj K F H m s k):RL K F H m (L2.start N k) (s.map some++List.replicate (N.length-s.length) none):=by
 have l:=r.length;refine⟨by unfold L2.start;simp [l],fun i d e=>?_⟩;by_cases h:i < s.length
 .rw [List.getElem?_append_left (by simpa using h),List.getElem?_map] at e;cases q:s[i]? with
  | none=>rw [q] at e;cases e
  | some v=>rw [q] at e;cases e;obtain⟨x,a,p⟩:=r.get q;refine⟨x,?_,p⟩;unfold L2.start;rw [List.getElem?_append_left (by simpa [<- l] using h),List.getElem?_map,a];rfl
 .rw [fV (by simpa using h),t5] at e;split at e <;> cases e
theorem El {P:Program}{w:World}{K:FG}{i:SV}{base:Heap}{x u:Str}{st:Stmt}{f:Addr}{p:FuncData}{N ps:LS}{k:Nat}{b:ES} (F:Fun K x u st f p) (S:FnScope N ps (aP st))
  (G:∀(c:Value) (A:Around) (o:List Env) (s:Shared) (H:Hp) (E:XK),Room k (A.deeper (envOfC u (aP st) s.heap.objs.size f c)) ->
   ms (tz pI P w K i base N u (aP st) f c A o s H E).nox (dJ st) (ku K b)):FnOk P w K i base pI (k+1) f p ps (ol K (cJ ps.length N.length b)):=by
 refine F.ok S (fun M H Q E h=>?_) (fun c A o s H M Q E I h=>⟨_,G c A o s H E I,?_⟩)
 .obtain⟨F,m,a,S,d,C,y,r,q,k⟩:=h;rw [<- r.length];unfold cJ at q;split at q
  .assumption
  .cases q
 .obtain⟨F,m,a,S,d,C,y,r,q,k⟩:=h;unfold cJ at q;split at q
  .cases e:b (a.map some++List.replicate (N.length-a.length) none) S with
   | none=>rw [e] at q;cases q
   | some z=>
    obtain⟨l,L,D⟩:=z;rw [e] at q;refine⟨F,m,_,S,l,L,D,y,r.toSt,e,fun O n g t B j T=>?_⟩;cases l with
    | nx=>cases q;exact k .non n g t B j rfl
    | bk=>cases q
    | ct=>cases q
    | rt R=>intro v J;cases q;exact k v n g t B j J
  .cases q
theorem zK:FnOk g w K c base pI k f b ps (ol K fun _ _=>none):=by
 have n:∀v H Q E,¬ol K (fun _ _=>none) v H Q E:=fun v H Q E h=>by obtain⟨F,m,e,S,d,x,_,_,q,_⟩:=h;cases q
 exact⟨fun v H Q E h=>absurd h (n v H Q E),fun A o s H a u v Q E _ _ _ _ h=>absurd h (n v H Q E)⟩
structure Tr where
 v:Option EV:=none
 e:Option EE:=none
 b:Option EB:=none
 w:Option EB:=none
noncomputable def Tr.ofV (f:Option EV):Tr:=⟨f,f.map eV,f.map fun g=>bT (eV g),f.map bV⟩
noncomputable def Tr.ofC (f:Option EV):Tr:=⟨f,f.map eV,f.map bV,f.map bV⟩
noncomputable def Tr.ofE (f:Option EE):Tr:=⟨f.map vE,f,f.map bT,f.map fun g=>bV (vE g)⟩
noncomputable def Tr.ofB (b w:Option EB):Tr:=⟨w.map vB,w.map fun g=>eV (vB g),b,w⟩
structure Cn where
 N:LS
 own:LS
 deep:LS
 refs:LS
 ks:List (Str×NameKind)
 F:Str->Option GF
 G:Str->Option P
 A:Str->Str->Bool
 M:Str->Str->Option GF
 I:Str->Option GF
noncomputable def kE:LS->Str->Option Nat
 | [],_=>none
 | y::r,x=>if y=x then some 0 else (kE r x).map (·+1)
theorem nD:∀{N:LS}{x:Str}{i:Nat},kE N x=some i->N[i]? = some x
 | [],_,_,h=>by cases h
 | y::r,x,i,h=>by
  unfold kE at h;split at h
  .rename_i e;cases h;simp [e]
  .cases q:kE r x with
   | none=>rw [q] at h;cases h
   | some j=>rw [q] at h;cases h;simpa using nD q
theorem lP:∀{N:LS}{x:Str}{i:Nat},N.Nodup->N[i]? = some x->kE N x=some i
 | [],_,_,_,h=>by simp at h
 | y::r,x,0,_,h=>by
  have:y=x:=by simpa using h
  unfold kE;rw [if_pos this]
 | y::r,x,i+1,d,h=>by
  have a:r[i]? = some x:=by simpa using h
  have n:¬y=x:=fun e=>by subst e;exact (List.nodup_cons.mp d).1 (bF a)
  unfold kE;rw [if_neg n,lP (List.nodup_cons.mp d).2 a];rfl
noncomputable def df (s:List (Str×NameKind)) (x:Str) (l:List NameKind):Bool:=match s.lookup x with
 | some k=>l.contains k
 | none=>false
noncomputable def iK (x:Str):Bool:=!(x == ("__debug__":Str)) && !(x == ("__classdict__":Str))
noncomputable def KY:Operator->Option (P->P->Option P)
 | .Add=>some aq
 | .Sub=>some rj
 | .Mult=>some dh
 | .FloorDiv=>some aC
 | .Mod=>some aV
 | .Pow=>some BM
 | _=>none
noncomputable def Hy:CmpOp->Option (P->P->Option P)
 | .Lt=>some Ar
 | .LtE=>some Ex
 | .Gt=>some E7
 | .GtE=>some Ht
 | _=>none
noncomputable def Hx:CmpOp->Option (D->D->aD->Option P)
 | .Eq=>some dC
 | .NotEq=>some oz
 | .In=>some Ct
 | .Is=>some rV
 | .IsNot=>some db
 | _=>none
noncomputable def oj:List (Option EV)->Option fS
 | []=>some aN
 | a::r=>a.bind fun f=>(oj r).map fun g=>aH f g
noncomputable def wK:List (Option EE)->Option oh
 | []=>some ba
 | a::r=>a.bind fun f=>(wK r).map fun g=>ae f g
noncomputable def rZ (o:BoolOp):List (Option EB)->Option EB
 | []=>none
 | [a]=>a
 | a::r=>a.bind fun f=>(rZ o r).map fun g=>match o with | .And=>fP f g | .Or=>xO f g
noncomputable def Jp (o:Option (Option EV)):Option EO:=match o with
 | none=>some dw
 | some a=>a.map de
noncomputable def zq (t:Str):Option String:=if t=("bool":Str) then some "bool" else if t=("list":Str) then some "list" else none
noncomputable def Ad (f:Str):Option (List P->Option P):=
 if f=("int":Str) then some bB else if f=("list":Str) then some hU else if f=("tuple":Str) then some bD else if f=("abs":Str) then some lZ else if f=("any":Str) then some wq else none
noncomputable def BW:LS:=["len","isinstance","int","bool","tuple","list","str","max","min","dict","range","abs","enumerate","sorted","all","any","sum","set","zip"]
noncomputable def o4 (a s:List (Str×NameKind)):List (Str×NameKind):=a.map fun (n,k)=>if (k == .free && s.lookup n == some .cell) then (n,.cell) else (n,k)
noncomputable def u1 (u:Cn) (j:Scope) (Y:LS) (p:List Nat) (n:Nat):Bool:=
 decide (j.kind=.function) && j.names.all (fun x=>x.2 != .cell) && j.names.all (fun x=>x.2 != .local || j.names.lookup x.1 == some .local)
  && j.names.all (fun x=>x.2 != .free || (j.names.lookup x.1 == some .free && (u.ks.lookup x.1 == some .cell || u.ks.lookup x.1 == some .free)))
  && decide (u.N=Y.take u.N.length) && decide (Y.length=u.N.length+n)
  && j.names.all (fun x=>x.2 != .local || match kE u.N x.1 with | some i=>p.contains i | none=>true)
noncomputable def sL (u:Cn) (f g:Str):Bool:=decide (f=g) && df u.ks f [.globalImplicit]
noncomputable def zt:Expr->Bool
 | .Tuple ..=>true
 | _=>false
noncomputable def zf (u:Cn) (f:Str) (a:Expr):Option Expr:=match a with
 | .Call (.Name r _) [b] [] _=>if (decide (f=("list":Str)) && sL u r "range")=true then some b else none
 | _=>none
noncomputable def ud (u:Cn) (f:Str) (a:Expr):Option (Expr×Expr):=match a with
 | .Call (.Name r _) [b,c] [] _=>if (decide (f=("dict":Str)) && sL u r "zip")=true then some (b,c) else none
 | _=>none
noncomputable def yf (u:Cn) (T:Expr->Tr) (O e:Expr):Option fS:=match e with
 | .Call (.Name f _) r [] _=>if sL u f "range"=true then match r with
   | [a]=>(T a).v.map hJ
   | _=>none
  else if sL u f "enumerate"=true then match r with
   | [a]=>if zt O=true then (T a).v.map gO else none
   | _=>none
  else (T e).v.map hG
 | .Set ..=>none
 | _=>(T e).v.map hG
noncomputable def AK (N:LS) (s:List (Str×NameKind)) (k:List NameKind):Expr->Option i4
 | .Name x _=>if df s x k=true then (kE N x).map ag else none
 | _=>none
noncomputable def ye (N:LS) (s:List (Str×NameKind)) (k:List NameKind):Ab->Option (List i4)
 | []=>some []
 | e::r=>(AK N s k e).bind fun g=>(ye N s k r).map fun h=>g::h
noncomputable def yb (N:LS) (s:List (Str×NameKind)) (k:List NameKind):Expr->Option i4
 | .Tuple B _ _=>(ye N s k B).map aI
 | e=>AK N s k e
noncomputable def GK:Expr->LS
 | .Name x _=>[x]
 | _=>[]
noncomputable def gG:Expr->LS
 | .Tuple B _ _=>B.flatMap GK
 | e=>GK e
noncomputable def mq (N:LS):LS->LS
 | []=>[]
 | t::r=>if (N.contains t || (mq N r).contains t)=true then mq N r else t::mq N r
noncomputable def Kd (N:LS) (p:LS):List Nat:=p.filterMap fun t=>kE N t
noncomputable def nc (u:Cn) (T:Cn->Expr->Tr) (l O iter:Expr) (i:Ab) (j:Scope):Option EV:=
 if (u1 u j (u.N++mq u.N (gG O)) (Kd u.N (gG O)) (mq u.N (gG O)).length && decide (u.N++mq u.N (gG O)).Nodup)=true then
  (yf u (T u) O iter).bind fun t=>(yb (u.N++mq u.N (gG O)) (o4 j.names u.ks) [.local] O).bind fun g=>
   (match i with | []=>some fm | [c]=>(T ⟨u.N++mq u.N (gG O),u.own.filter (fun x=>!(gG O).contains x),[],u.refs,o4 j.names u.ks,u.F,u.G,u.A,u.M,u.I⟩ c).b | _=>none).bind fun c=>
   (T ⟨u.N++mq u.N (gG O),u.own.filter (fun x=>!(gG O).contains x),[],u.refs,o4 j.names u.ks,u.F,u.G,u.A,u.M,u.I⟩ l).v.map fun e=>aX t (Kd u.N (gG O)) (mq u.N (gG O)).length g c e
 else none
noncomputable def nH (u:Cn):Nat->Expr->Bool
 | 0,_=>false
 | _,.Name x _=>u.own.contains x
 | n+1,.Subscript a _ _=>nH u n a
 | n+1,.Attribute a _ _=>nH u n a
 | n+1,.Call (.Attribute o m _) (_::_) [] _=>decide (m=("setdefault":Str)) && nH u n o
 | _,_=>false
noncomputable def se:Expr->Option (Ab)
 | .Tuple B _ _=>some B
 | _=>none
noncomputable def yx:Ab->Option Expr
 | [a,.List [] _]=>some a
 | _=>none
noncomputable def xg:Expr->Bool
 | .Name ..=>true
 | .Attribute ..=>true
 | .Subscript ..=>true
 | _=>false
noncomputable def ET (u:Cn) (o:Option EE) (os:Expr) (m:Str) (Q:List (Option EE)) (p c:Pos):Tr:=
 if (xg os && (p.endLine == c.line) && decide (Q.length < 29))=true then .ofE (o.bind fun x=>(wK Q).map fun a=>dA u.M x m a) else {}
noncomputable def EU (u:Cn) (o:Expr) (m:Str) (n:Str) (a c:Pos):Bool:=decide (m=n) && nH u 4 o && (a.endLine == c.line)
noncomputable def tr (u:Cn):Nat->Expr->Tr
 | 0,_=>{}
 | n+1,e=>match e with
  | .Constant c _ _=>match c with
   | .int i=>.ofV (some (vC (.int i)))
   | .bool i=>.ofV (some (vC (.bl i)))
   | .none=>.ofV (some (vC .non))
   | .str i=>.ofV (some (vC (.str i)))
   | _=>{}
  | .Name x _=>if (df u.ks x [.local,.cell,.free] && iK x)=true then .ofE ((kE u.N x).map aa) else
    if (df u.ks x [.globalImplicit] && iK x)=true then .ofV ((u.G x).bind fun v=>if zw v=true then none else some (vC v)) else {}
  | .BinOp a p b _=>.ofV ((KY p).bind fun g=>(tr u n a).v.bind fun x=>(tr u n b).v.map fun y=>ab g x y)
  | .UnaryOp p a _=>match p with
   | .USub=>.ofV ((tr u n a).v.map (CU uV))
   | .Not=>.ofB ((tr u n a).b.map rM) ((tr u n a).w.map rM)
   | _=>{}
  | .BoolOp p B _=>.ofB (rZ p (B.map fun x=>(tr u n x).b)) (rZ p (B.map fun x=>(tr u n x).w))
  | .Compare a H F _=>match H,F with
   | [p],[b]=>.ofC (match Hy p with
    | some g=>(tr u n a).v.bind fun x=>(tr u n b).v.map fun y=>ab g x y
    | none=>(Hx p).bind fun g=>(tr u n a).e.bind fun x=>(tr u n b).e.map fun y=>aA g x y)
   | [p,d],[b,c]=>.ofC ((Hy p).bind fun g=>(Hy d).bind fun P=>(tr u n a).v.bind fun x=>(tr u n b).v.bind fun y=>(tr u n c).v.map fun z=>k8 g P x y z)
   | _,_=>{}
  | .IfExp c a b _=>{ Tr.ofV ((tr u n c).b.bind fun q=>(tr u n a).v.bind fun x=>(tr u n b).v.map fun y=>B6 q x y) with b:=none }
  | .Tuple B _ _=>.ofV ((oj (B.map fun x=>(tr u n x).v)).map az)
  | .List B _=>.ofV ((oj (B.map fun x=>(tr u n x).v)).map aS)
  | .Dict D E _=>match D,E with
   | [],[]=>{ e:=some lU,v:=some (vE lU) }
   | _,_=>{}
  | .Subscript a i _=>match i with
   | .Slice lo C st _=>if st.isSome=true then {} else .ofV ((tr u n a).v.bind fun x=>(Jp (lo.map fun y=>(tr u n y).v)).bind fun y=>(Jp (C.map fun z=>(tr u n z).v)).map fun z=>gb x y z)
   | _=>if nH u 4 a=true then (match se i with
    | some B=>.ofE ((tr u n a).e.bind fun x=>(oj (B.map fun z=>(tr u n z).v)).map fun y=>uP x y)
    | none=>.ofE ((tr u n a).e.bind fun x=>(tr u n i).v.map fun y=>tX x y)) else .ofV ((tr u n a).v.bind fun x=>(tr u n i).v.map fun y=>ab al x y)
  | .Call K r w s=>match w with
   | _::_=>{}
   | []=>match K with
   | .Name f _=>if (df u.ks f [.globalImplicit] && iK f)=true then
    match u.I f with
    | some g=>match r with
     | []=>{}
     | _=>.ofE ((wK (r.map fun x=>(tr u n x).e)).map fun a=>pf g f a)
    | none=>match u.F f with
    | some g=>match r with
     | []=>{}
     | _=>if u.refs.contains f=true then .ofV ((wK (r.map fun x=>(tr u n x).e)).map fun a=>cD g a) else .ofV ((oj (r.map fun x=>(tr u n x).v)).map fun a=>af (pureOf g) a)
    | none=>match r with
     | []=>{}
     | [a]=>if f=("len":Str) then .ofV ((tr u n a).e.map dB) else if f=("sorted":Str) then .ofV ((tr u n a).e.map oX) else match zf u f a with
      | some b=>.ofV ((tr u n b).v.map EQ)
      | none=>match ud u f a with
       | some z=>.ofE ((tr u n z.1).v.bind fun x=>(tr u n z.2).v.map fun y=>qP x y)
       | none=>.ofV ((Ad f).bind fun g=>(oj [(tr u n a).v]).map fun x=>af g x)
     | [a,.Name t G]=>if f=("isinstance":Str) then (if df u.ks t [.globalImplicit]=true then (match zq t with | some T=>.ofV ((tr u n a).e.map fun x=>AG T x) | none=>{}) else {}) else {}
     | _=>{}
   else {}
   | .Attribute o m h=>match r with
    | [a]=>if EU u o m "append" h s=true then .ofE ((tr u n o).e.bind fun x=>(tr u n a).e.map fun y=>a_ x y) else
    if EU u o m "extend" h s=true then .ofE ((tr u n o).e.bind fun x=>(tr u n a).v.map fun y=>dI x y) else
    if (decide (m=("index":Str)) && xg o && (h.endLine == s.line))=true then .ofV ((tr u n o).v.bind fun x=>(tr u n a).v.map fun y=>l8 x y) else
    (match se a with
    | some B=>if EU u o m "get" h s=true then .ofE ((tr u n o).e.bind fun x=>(oj (B.map fun z=>(tr u n z).v)).map fun y=>sY x y) else ET u (tr u n o).e o m [(tr u n a).e] h s
    | none=>ET u (tr u n o).e o m [(tr u n a).e] h s)
    | args=>if (decide (m=("get":Str)) && xg o && (h.endLine == s.line))=true then (match r with
      | [a,b]=>.ofV ((tr u n o).v.bind fun x=>(tr u n a).v.bind fun y=>(tr u n b).v.map fun z=>vg x y z)
      | _=>{}) else match yx r with
     | some a=>if EU u o m "setdefault" h s=true then .ofE ((tr u n o).e.bind fun x=>(tr u n a).v.map fun y=>mO x y (cu aN)) else ET u (tr u n o).e o m (r.map fun x=>(tr u n x).e) h s
     | none=>ET u (tr u n o).e o m (r.map fun x=>(tr u n x).e) h s
   | _=>{}
  | .Attribute o f _=>if xg o=true then .ofE ((tr u n o).e.map fun x=>dF u.A x f) else {}
  | .ListComp l A j _=>match A with
   | [⟨O,iter,k,0⟩]=>.ofV (nc u (fun S x=>tr S n x) l O iter k j)
   | _=>{}
  | _=>{}
noncomputable def FI (u:Cn) (n _k:Nat) (e:Expr):Option EE:=match e with
 | .Call (.Name f _) r [] _=>if (df u.ks f [.globalImplicit] && iK f && !r.isEmpty && u.deep.contains f)=true then
   match u.F f with
   | some g=>(wK (r.map fun x=>(tr u n x).e)).map fun a=>fX g a
   | none=>(tr u n e).e
  else (tr u n e).e
 | _=>(tr u n e).e
structure XOk (Γ:Cn) (X:Cx):Prop where
 hN:X.N=Γ.N
 nd:X.N.Nodup
 ks:X.env.scope.names=Γ.ks
 kd:X.env.scope.kind=.function
 calm:X.calm=true
 hu:X.A.units+64 < cLine
 fns:∀x g,Γ.F x=some g->∃k f fd ps,FnOk X.prog X.w X.K X.mg X.base pI k f fd ps (ol X.K g)/\Room k X.A/\X.mg x=some (.ref f)/\PySem.W.keepIn X.K (.ref f)=true/\Binds X.K fd ps []
 blt:∀x ∈ BW,X.mg x=none
 glb:∀x v,Γ.G x=some v->kR X.w X.K X.mg x v
 attrs:IJ X.K Γ.A
 meths:IG X Γ.M
 mks:∀c g,Γ.I c=some g->∃C k f fd ps,i5 X.K c C/\X.mg c=some (.ref C)/\Mk X.K C f/\FnOk X.prog X.w X.K X.mg X.base pI k f fd ps (ol X.K g)/\Room (k+1) X.A/\Binds X.K fd ps []
structure Good (X:Cx) (ex:Expr) (t:Tr):Prop where
 v:∀f,t.v=some f->PE X ex (tV X.K f)
 e:∀f,t.e=some f->PE X ex (tE X.K f)
 b:∀f,t.b=some f->PT X ex (tQ X.K f)
 w:∀f,t.w=some f->PE X ex (tV X.K (vB f))
section
variable {X:Cx}{e:Expr}
theorem Good.no:Good X e {}:=⟨fun _ h=>(by cases h),fun _ h=>(by cases h),fun _ h=>(by cases h),fun _ h=>(by cases h)⟩
noncomputable def Ao (e:Expr):Prop:=∀J w,isTrue e J w=(do let v <- w;standAt e.pos;holding [v] (truthy v))
theorem Good.ofV {t:Option EV} (h:∀f,t=some f->PE X e (tV X.K f)) (p:Ao e):Good X e (.ofV t) where
 v:=h
 e:=fun f q=>by
  cases t with
  | none=>cases q
  | some g=>cases q;exact EN (h _ rfl)
 b:=fun f q=>by
  cases t with
  | none=>cases q
  | some g=>cases q;exact yT (EN (h _ rfl)) (p _)
 w:=fun f q=>by
  cases t with
  | none=>cases q
  | some g=>cases q;exact vb (h _ rfl)
theorem Good.ofC {t:Option EV} (h:∀f,t=some f->PE X e (tV X.K f)) (x:∀f,t=some f->PT X e (tQ X.K (bV f))):Good X e (.ofC t) where
 v:=h
 e:=fun f q=>by
  cases t with
  | none=>cases q
  | some g=>cases q;exact EN (h _ rfl)
 b:=fun f q=>by
  cases t with
  | none=>cases q
  | some g=>cases q;exact x _ rfl
 w:=fun f q=>by
  cases t with
  | none=>cases q
  | some g=>cases q;exact vb (h _ rfl)
theorem Good.ofE {t:Option EE} (h:∀f,t=some f->PE X e (tE X.K f)) (p:Ao e):Good X e (.ofE t) where
 v:=fun f q=>by
  cases t with
  | none=>cases q
  | some g=>cases q;exact IX (h _ rfl)
 e:=h
 b:=fun f q=>by
  cases t with
  | none=>cases q
  | some g=>cases q;exact yT (h _ rfl) (p _)
 w:=fun f q=>by
  cases t with
  | none=>cases q
  | some g=>cases q;exact vb (IX (h _ rfl))
theorem Good.ofB {b w:Option EB} (h:∀f,b=some f->PT X e (tQ X.K f)) (hw:∀f,w=some f->PE X e (tV X.K (vB f))):Good X e (.ofB b w) where
 v:=fun f q=>by
  cases w with
  | none=>cases q
  | some g=>cases q;exact hw _ rfl
 e:=fun f q=>by
  cases w with
  | none=>cases q
  | some g=>cases q;exact EN (hw _ rfl)
 b:=h
 w:=hw
end
theorem ao {t e:Type}{x:Option t}{f:t->Option e}{r:e} (h:x.bind f=some r):∃a,x=some a/\f a=some r:=by
 cases x with
 | none=>cases h
 | some a=>exact⟨a,rfl,h⟩
theorem au {t e:Type}{x:Option t}{f:t->e}{r:e} (h:x.map f=some r):∃a,x=some a/\r=f a:=by
 cases x with
 | none=>cases h
 | some a=>cases h;exact⟨a,rfl,rfl⟩
noncomputable def dH (e:Expr):Prop:=∀B J,starEach (e::B) J=(false,eval e J)::starEach B J
variable {u:Cn}{n:Nat}{e:Expr}
theorem bv (h:(tr u n e).v.isSome=true\/(tr u n e).e.isSome=true):dH e:=by
 intro B J;cases n with
 | zero=>rcases h with h | h <;> cases h
 | succ n=>cases e <;> first | rfl | (rcases h with h | h <;> cases h)
theorem nu (h:(tr u n e).v.isSome=true):kQ e:=by
 intro o i;cases n with
 | zero=>cases h
 | succ n=>cases e <;> first | rfl | cases h
variable {B:Ab}{J:Env}{E:Pos}
theorem iV (h:∀e ∈ B,dH e):(backTo E (starEach B J)).any (·.1)=false:=by
 induction B with
 | nil=>rfl
 | cons e B i=>
  rw [h e List.mem_cons_self B J];have:=i fun x a=>h x (aY _ a)
  unfold backTo at this ⊢;rw [List.map_cons,gB,this];rfl
section
variable {u:Cn}{X:Cx} (h:XOk u X)
include h
theorem XOk.gl (q:df u.ks x [.globalImplicit]=true):Gl X x:=by
 unfold Gl Env.kindOf;rw [h.ks];unfold df at q;cases e:u.ks.lookup x with
 | none=>rw [e] at q;cases q
 | some k=>rw [e] at q;cases k <;> first | rfl | cases q
theorem XOk.vis (q:df u.ks x [.local,.cell,.free]=true):EI X.env.scope x:=by
 unfold EI;rw [h.ks];unfold df at q;cases e:u.ks.lookup x with
 | none=>rw [e] at q;cases q
 | some k=>rw [e] at q;cases k <;> first | exact .inl rfl | exact .inr (.inl rfl) | exact .inr (.inr rfl) | cases q
theorem XOk.loc (q:df u.ks x [.local,.cell]=true):L2.Loc X.env.scope x:=by
 unfold L2.Loc;rw [h.ks];unfold df at q;cases e:u.ks.lookup x with
 | none=>rw [e] at q;cases q
 | some k=>rw [e] at q;cases k <;> first | exact .inl rfl | exact .inr rfl | cases q
theorem XOk.local (q:df u.ks x [.local]=true):X.env.scope.names.lookup x=some .local:=by
 rw [h.ks];unfold df at q;cases e:u.ks.lookup x with
 | none=>rw [e] at q;cases q
 | some k=>rw [e] at q;cases k <;> first | rfl | cases q
omit h in
theorem fy (q:iK x=true):(x == ("__debug__":Str))=false/\(x == ("__classdict__":Str))=false:=by unfold iK at q;rw [Bool.and_eq_true] at q;exact⟨by simpa using q.1,by simpa using q.2⟩
theorem XOk.get (q:kE u.N x=some i):X.N[i]? = some x:=by rw [h.hN];exact nD q
omit h in
theorem gc {u:Cn}{n:Nat}:∀{B:Ab}{s:fS},(∀e ∈ B,Good X e (tr u n e))->oj (B.map fun x=>(tr u n x).v)=some s->PA X B (nh X.K s)/\∀e ∈ B,dH e
 | [],s,_,q=>by cases q;exact⟨BZ,fun _ z=>by cases z⟩
 | e::B,s,g,q=>by
  obtain⟨f,k,t⟩:=ao q;obtain⟨r,p,rfl⟩:=au t;obtain⟨c,m⟩:=gc (fun x a=>g x (aY _ a)) p;have k:(tr u n e).v=some f:=k;have b:dH e:=bv (.inl (by rw [k];rfl));refine⟨An ((g e List.mem_cons_self).v f k) c (b _ _),fun x a=>?_⟩;rcases bj.mp a with a | a
  .subst a;exact b
  .exact m x a
omit h in
theorem kt {u:Cn}{n:Nat}:∀{B:Ab}{s:oh},(∀e ∈ B,Good X e (tr u n e))->wK (B.map fun x=>(tr u n x).e)=some s->PA X B (wL X.K s)/\∀e ∈ B,dH e
 | [],s,_,q=>by cases q;exact⟨Hn,fun _ z=>by cases z⟩
 | e::B,s,g,q=>by
  obtain⟨f,k,t⟩:=ao q;obtain⟨r,p,rfl⟩:=au t;obtain⟨c,m⟩:=kt (fun x a=>g x (aY _ a)) p;have k:(tr u n e).e=some f:=k;have b:dH e:=bv (.inr (by rw [k];rfl));refine⟨Er ((g e List.mem_cons_self).e f k) c (b _ _),fun x a=>?_⟩;rcases bj.mp a with a | a
  .subst a;exact b
  .exact m x a
omit h in
theorem rX {o:BoolOp}{E:Pos}{u:Cn}{n:Nat}:∀{B:Ab}{f:EB},(∀e ∈ B,Good X e (tr u n e))->rZ o (B.map fun x=>(tr u n x).b)=some f->PW X (.BoolOp o B E) (tQ X.K f)
 | [],f,_,q=>by cases q
 | [a],f,g,q=>by
  cases o with
  | And=>exact Fm ((g a List.mem_cons_self).b f q)
  | Or=>exact IR ((g a List.mem_cons_self).b f q)
 | a::b::B,f,g,q=>by
  obtain⟨x,s,c⟩:=ao q;obtain⟨r,m,rfl⟩:=au c;have i:=rX (B:=b::B) (E:=E) (fun x k=>g x (aY _ k)) m;cases o with
  | And=>exact IU ((g a List.mem_cons_self).b x s) i
  | Or=>exact K7 ((g a List.mem_cons_self).b x s) i
omit h in
theorem rY {o:BoolOp}{E:Pos}{u:Cn}{n:Nat}:∀{B:Ab}{f:EB},(∀e ∈ B,Good X e (tr u n e))->rZ o (B.map fun x=>(tr u n x).w)=some f->PE X (.BoolOp o B E) (tV X.K (vB f))
 | [],f,_,q=>by cases q
 | [a],f,g,q=>Fy ((g a List.mem_cons_self).w f q)
 | a::b::B,f,g,q=>by
  obtain⟨x,s,c⟩:=ao q;obtain⟨r,m,rfl⟩:=au c;have i:=rY (B:=b::B) (E:=E) (fun x k=>g x (aY _ k)) m;cases o with
  | And=>exact Jj ((g a List.mem_cons_self).w x s) i
  | Or=>exact K8 ((g a List.mem_cons_self).w x s) i
omit h in
theorem yd {u:Cn}{n:Nat}{o:Option Expr}{f:EO} (g:∀e,Good X e (tr u n e)) (q:Jp (o.map fun y=>(tr u n y).v)=some f):PO X o (tO X.K f):=by
 cases o with
 | none=>cases q;exact DQ
 | some e=>obtain⟨x,a,rfl⟩:=au (show ((tr u n e).v).map de=some f from q);exact DP ((g e).v x a)
theorem EC (q:KY s=some g):mu X (binaryOp s) g:=by cases s <;> first | (cases q;exact DL) | (cases q;exact Gs) | (cases q;exact DK) | (cases q;exact Bj) | (cases q;exact Gy) | (cases q;exact Gu) | cases q
omit h in
theorem lC (q:Hy s=some g):mu X (compareOp s) g:=by cases s <;> first | (cases q;exact JN) | (cases q;exact JO) | (cases q;exact JP) | (cases q;exact JQ) | cases q
theorem wm (q:Hx s=some g):io X (compareOp s) (rE X.K g):=by cases s <;> first | (cases q;exact GD h.hu) | (cases q;exact Gw h.hu) | (cases q;exact GA h.hu) | (cases q;exact Gz) | (cases q;exact y3) | cases q
omit h in
theorem tD (b:Expr) (q:Hy s=some g):behindInMarks s b=false:=by cases s <;> first | exact DR b | cases q
omit h in
theorem vJ (q:(tr u n b).e.isSome=true):behindInMarks s b=false:=by
 cases n with
 | zero=>cases q
 | succ n=>cases b <;> first | rfl | cases q
omit h in
theorem sF (q:(tr u n c).v.isSome=true):lastMarks [k,s] [b,c]=false:=by
 cases n with
 | zero=>cases q
 | succ n=>cases c <;> first | rfl | cases q
theorem BS (m:u.F f=some g) (r:df u.ks f [.globalImplicit]=true) (q:iK f=true) (x:PA X (a::Q) (nh X.K s)) (n:∀e ∈ a::Q,dH e) :
  PE X (.Call (.Name f U) (a::Q) [] E) (tV X.K (af (pureOf g) s)):=by
 obtain⟨k,d,w,i,G,v,t,p,b⟩:=h.fns f g m;exact Fx (FnOk.pure G) v (h.gl r) t p b x (fy q).1 (n a List.mem_cons_self _ _) (iV fun e c=>n e (aY _ c))
theorem tM (v:u.F f=some g) (m:df u.ks f [.globalImplicit]=true) (t:iK f=true) (b:PA X (a::Q) (wL X.K s)) (n:∀e ∈ a::Q,dH e) :
  PE X (.Call (.Name f U) (a::Q) [] E) (tV X.K (cD g s))/\PE X (.Call (.Name f U) (a::Q) [] E) (tE X.K (fX g s)):=by
 obtain⟨k,d,w,i,G,q,r,p,c⟩:=h.fns f g v;exact⟨Ay G q (h.gl m) r p c b (fy t).1 (n a List.mem_cons_self _ _) (iV fun e x=>n e (aY _ x)),
  CS G q (h.gl m) r p c b (fy t).1 (n a List.mem_cons_self _ _) (iV fun e x=>n e (aY _ x))⟩
theorem ED (x:Ad f=some g) (k:df u.ks f [.globalImplicit]=true) (n:PA X (a::Q) (nh X.K c)) (b:∀e ∈ a::Q,dH e) :
  PE X (.Call (.Name f U) (a::Q) [] E) (tV X.K (af g c)):=by
 have s:=b a List.mem_cons_self Q X.env;have p:=iV (J:=X.env) (E:=E) fun e s=>b e (aY _ s);unfold Ad at x;split at x
 .rename_i e;subst e;cases x;exact CJ (h.gl k) (h.blt _ (by decide)) n s p
 split at x
 .rename_i e;subst e;cases x;exact CI (h.gl k) (h.blt _ (by decide)) n s p
 split at x
 .rename_i e;subst e;cases x;exact Aw (h.gl k) (h.blt _ (by decide)) n s p
 split at x
 .rename_i e;subst e;cases x;exact Fp (h.gl k) (h.blt _ (by decide)) n s p
 split at x
 .rename_i e;subst e;cases x;exact Fo (h.gl k) (h.blt _ (by decide)) n h.calm s p
 .cases x
theorem Eg (t:zq s=some T) (n:df u.ks ("isinstance":Str) [.globalImplicit]=true) (k:df u.ks s [.globalImplicit]=true) (x:PE X a (tE X.K c)) (r:dH a) :
  PE X (.Call (.Name "isinstance" U) [a,.Name s b] [] E) (tV X.K (AG T c)):=by
 have f:starEach [a,.Name s b] X.env=[(false,eval a X.env),(false,eval (.Name s b) X.env)]:=by rw [r];rfl
 have m:=h.blt ("isinstance":Str) (by decide);unfold zq at t;split at t
 .rename_i e;subst e;cases t;exact Fj zm (h.gl n) m (h.gl k) (h.blt _ (by decide)) PyProof.Rows.boot_bool x (by decide) (by decide) f
 split at t
 .rename_i e;subst e;cases t;exact Fj zl (h.gl n) m (h.gl k) (h.blt _ (by decide)) tY x (by decide) (by decide) f
 .cases t
omit h in
theorem mM (q:sL u f g=true):f=g/\df u.ks f [.globalImplicit]=true:=by unfold sL at q;rw [Bool.and_eq_true] at q;exact⟨of_decide_eq_true q.1,q.2⟩
theorem Cj {n:Nat}{O e:Expr}{f:fS} (g:∀x,Good X x (tr u n x)) (q:yf u (fun x=>tr u n x) O e=some f):PI X O e (tI X.K f):=by
 have plain:((tr u n e).v.map hG=some f)->PI X O e (tI X.K f):=fun q=>by obtain⟨x,s,rfl⟩:=au q;exact iS ((g e).v x s)
 unfold yf at q;split at q
 .rename_i c U k E;split at q
  .rename_i r;obtain⟨rfl,r⟩:=mM r;have b:=h.gl r;have m:=h.blt ("range":Str) (by decide);split at q
   .rename_i a;obtain⟨x,s,rfl⟩:=au q;exact Lv b m ((g a).v x s) (bv (.inl (by rw [s];rfl)) _ _)
   .cases q
  .split at q
   .rename_i r;obtain⟨rfl,r⟩:=mM r;split at q
    .rename_i a;split at q
     .rename_i t;obtain⟨x,s,rfl⟩:=au q;cases O <;> first | (cases t;done) | skip
      exact Lw (h.gl r) (h.blt ("enumerate":Str) (by decide)) ((g a).v x s) (bv (.inl (by rw [s];rfl)) _ _)
     .cases q
    .cases q
   .exact plain q
 .cases q
 .exact plain q
omit h in
theorem wB (q:ud u f a=some (b,c)):f="dict"/\∃r p x,a=.Call (.Name r p) [b,c] [] x/\sL u r "zip"=true:=by
 unfold ud at q;split at q
 .rename_i r p s n x;split at q
  .rename_i e;cases q;rw [Bool.and_eq_true] at e;exact⟨of_decide_eq_true e.1,r,p,x,rfl,e.2⟩
  .cases q
 .cases q
omit h in
theorem ze (q:zf u f a=some b):f="list"/\∃r p c,a=.Call (.Name r p) [b] [] c/\sL u r "range"=true:=by
 unfold zf at q;split at q
 .rename_i r p e c;split at q
  .rename_i x;rw [Bool.and_eq_true] at x;cases q;exact⟨of_decide_eq_true x.1,r,p,c,rfl,x.2⟩
  .cases q
 .cases q
omit h in
theorem sK (q:yf u T O e=some f) (J:Env) (x:Value):foldedSetIterable e J x=pure x:=by cases e <;> first | rfl | cases q
theorem Ae (q:u1 u j Y p n=true):BlockOk X j Y p n:=by
 unfold u1 at q;simp only [Bool.and_eq_true] at q;obtain⟨⟨⟨⟨⟨⟨f,b⟩,c⟩,m⟩,r⟩,v⟩,d⟩:=q;have s:u.N=Y.take u.N.length:=of_decide_eq_true r;refine⟨of_decide_eq_true f,fun x a=>?_,fun x a l=>?_,fun x a l=>?_,?_,?_,fun x a l i k=>?_⟩
 .simpa using bn.mp b x a
 .have:=bn.mp c x a;rw [l] at this;simpa using this
 .have:=bn.mp m x a;rw [l] at this;have t:j.names.lookup x.1=some .free/\(u.ks.lookup x.1=some .cell\/u.ks.lookup x.1=some .free):=by simpa using this
  refine⟨t.1,?_⟩;unfold Env.kindOf;rw [h.ks];exact t.2
 .rw [h.hN];exact s
 .rw [h.hN];exact of_decide_eq_true v
 .have:=bn.mp d x a;rw [l] at this;have e:kE u.N x.1=some i:=lP (by rw [<- h.hN];exact h.nd) (by rw [<- h.hN];exact k);rw [e] at this;simpa using this
end
theorem Ch {X:Cx}{N:LS}{s:List (Str×NameKind)}{k:List NameKind}{e:Expr}{g:i4} (n:X.N=N) (d:X.N.Nodup) (f:∀x,df s x k=true->L2.Loc X.env.scope x/\(X.fn x=true\/X.env.scope.names.lookup x=some .local)) (q:AK N s k e=some g):Eh e=true/\PG X e (gT X.K g):=by
 unfold AK at q;split at q
 .split at q
  .rename_i c;obtain⟨i,b,rfl⟩:=au q;obtain⟨h,a⟩:=f _ c;exact⟨rfl,Ek i d (by rw [n];exact nD b) h a⟩
  .cases q
 .cases q
theorem tg_ok {X:Cx}{N:LS}{h:List (Str×NameKind)}{k:List NameKind}{e:Expr}{g:i4} (m:X.calm=true) (n:X.N=N) (d:X.N.Nodup) (f:∀x,df h x k=true->L2.Loc X.env.scope x/\(X.fn x=true\/X.env.scope.names.lookup x=some .local)) (q:yb N h k e=some g):PG X e (gT X.K g):=by
 have all:∀{B:Ab}{s:List i4},ye N h k B=some s->GsOk X B s:=by
  intro B;induction B with
  | nil=>intro s q;cases q;exact .nil
  | cons e B i=>intro s q;obtain⟨g,a,q⟩:=ao q;obtain⟨r,t,rfl⟩:=au q;obtain⟨b,c⟩:=Ch n d f a;exact .cons b c (i t)
 unfold yb at q;split at q
 .obtain⟨s,a,rfl⟩:=au q;exact Ej m (all a)
 .exact (Ch n d f q).2
variable {j:Scope}
theorem yB (h:J.scope.kind=.function):(relabel j J).names=o4 j.names J.scope.names:=by unfold relabel o4 Env.kindOf;rw [h];simp
variable {X:Cx}{Y:LS}{p:List Nat}
theorem XOk.inn (h:XOk u X) (B:BlockOk X j Y p n) (d:Y.Nodup) (s:Shared) (H:Hp) (C:Addr) (U:List Addr) :
  XOk ⟨Y,[],[],u.refs,o4 j.names u.ks,u.F,u.G,u.A,u.M,u.I⟩ (Ev.inn X j Y s H C U) where
 hN:=rfl
 nd:=d
 ks:=by show (relabel j X.env).names=_;rw [yB h.kd,h.ks]
 kd:=B.kind
 calm:=h.calm
 hu:=h.hu
 fns:=h.fns
 blt:=h.blt
 glb:=h.glb
 attrs:=h.attrs
 meths:=h.meths
 mks:=h.mks
theorem n_ (B:BlockOk X j Y p n) (I:Inv X q w H s):closureFor j X.env=pure (lE j X.env):=by
 have all:∀x ∈ j.names,x.2=.free->∃c,X.env.cells.lookup x.1=some c:=fun x d e=>I.ok.has x.1 (B.fr x d e).2;unfold closureFor lE;have b:∀(l:List (Str×NameKind)) (a:List (Str×Addr)),(∀x ∈ l,x.2=.free->∃c,X.env.cells.lookup x.1=some c) ->
   (forIn l a fun (x:Str×NameKind) (r:List (Str×Addr))=>(do
    if x.2 == .free then do
     let c <- cellOf X.env x.1
     pure (ForInStep.yield ((x.1,c)::r))
    else pure (ForInStep.yield r):Sem (ForInStep (List (Str×Addr)))))=pure ((((l.filter fun x=>x.2 == .free).map fun x=>(x.1,(X.env.cells.lookup x.1).getD 0)).reverse)++a):=by
  intro l;induction l with
  | nil=>intro a _;rfl
  | cons x l i=>
   intro a e;rw [List.forIn_cons];by_cases h:(x.2 == NameKind.free)=true
   .obtain⟨c,m⟩:=e x List.mem_cons_self (by simpa using h);rw [if_pos h,t4 (p:=fun (x:Str×NameKind)=>x.2 == .free) h,List.map_cons,List.reverse_cons,List.append_assoc];have v:cellOf X.env x.1=pure c:=by unfold cellOf;rw [m]
    rw [v,m];show (forIn l ((x.1,c)::a) _:Sem _)=_;rw [i ((x.1,c)::a) fun y f=>e y (aY _ f)];rfl
   .rw [if_neg h,t3 (p:=fun (x:Str×NameKind)=>x.2 == .free) h];show (forIn l a _:Sem _)=_;rw [i a fun y f=>e y (aY _ f)]
 have k:=b j.names [] all;rw [List.append_nil] at k;show (Bind.bind (forIn j.names [] fun (x:Str×NameKind) (r:List (Str×Addr))=>(do
    if x.2 == .free then do
     let c <- cellOf X.env x.1
     pure (ForInStep.yield ((x.1,c)::r))
    else pure (ForInStep.yield r):Sem (ForInStep (List (Str×Addr))))) fun t=>pure t:Sem (List (Str×Addr)))=_
 rw [k];rfl
variable {O:Expr}
theorem CP (B:BlockOk X j Y p n) (h:X.calm=true)
  (m:PI X O iter (tI X.K r)) (f:∀s H C U,PG (inn X j Y s H C U) O (gT X.K g)) (a:∀s H C U,PIfs (inn X j Y s H C U) k c) (e:∀s H C U,PE (inn X j Y s H C U) l (tV X.K b))
  (t:∀x,foldedSetIterable iter X.env x=pure x) :
  PE X (.ListComp l [⟨O,iter,k,0⟩] j E) (tV X.K (aX r p n g c b)):=fun i s v H Q I q=>
 Fv B h m f a e (n_ B I) t i s v H Q I q
variable {x:Str}
theorem CG (i:Nat) (N:X.N.Nodup) (B:BlockOk X j Y p n) (h:X.calm=true)
  (u:PI X O iter (tI X.K d)) (v:∀s H C U,PG (inn X j Y s H C U) O (gT X.K g)) (f:∀s H C U,PIfs (inn X j Y s H C U) k c) (m:∀s H C U,PE (inn X j Y s H C U) l (tV X.K r))
  (w:swapsWith (.ListComp l [⟨O,iter,k,0⟩] j E) (some (.Name x A)) b.line X.env=pure true)
  (y:∀x,foldedSetIterable iter X.env x=pure x) (e:X.N[i]? = some x) (z:L2.Loc X.env.scope x)
  (t:X.fn x=true\/X.env.scope.names.lookup x=some .local) :
  PS X (.Assign [.Name x A] (.ListComp l [⟨O,iter,k,0⟩] j E) b) (ku X.K (ak i (eV (aX d p n g c r)))):=fun a s o H D I q=>
 Fi i N B h u v f m (n_ B I) w y e z t a s o H D I q
noncomputable def rS (n:Nat):Prop:=∀(u:Cn) (X:Cx),XOk u X->∀e,Good X e (tr u n e)
theorem XOk.own (h:XOk u X) (o:LS):XOk ⟨u.N,o,u.deep,u.refs,u.ks,u.F,u.G,u.A,u.M,u.I⟩ X:=⟨h.hN,h.nd,h.ks,h.kd,h.calm,h.hu,h.fns,h.blt,h.glb,h.attrs,h.meths,h.mks⟩
theorem tG {u:Cn}{X:Cx} (h:XOk u X) {n:Nat} (G:rS n) {l O iter:Expr}{k:Ab}{j:Scope}{f:EV} (q:nc u (fun v x=>tr v n x) l O iter k j=some f) :
  ∃Y p m y g d w,BlockOk X j Y p m/\PI X O iter (tI X.K y)/\(∀s H C U,PG (inn X j Y s H C U) O (gT X.K g))/\(∀s H C U,PIfs (inn X j Y s H C U) k d)/\(∀s H C U,PE (inn X j Y s H C U) l (tV X.K w)) /\
   (∀x,foldedSetIterable iter X.env x=pure x)/\f=aX y p m g d w:=by
 unfold nc at q;generalize N:u.N++mq u.N (gG O)=Y at q;generalize K:Kd u.N (gG O)=p at q;generalize E:(mq u.N (gG O)).length=m at q;split at q
 .rename_i b;rw [Bool.and_eq_true] at b;obtain⟨P,S,q⟩:=ao q;obtain⟨F,A,q⟩:=ao q;obtain⟨c,t,q⟩:=ao q;obtain⟨e,D,rfl⟩:=au q;have B:BlockOk X j Y p m:=Ae h b.1;have o:Y.Nodup:=of_decide_eq_true b.2;have i:=fun s H C U=>(h.inn B o s H C U).own (u.own.filter (fun x=>!(gG O).contains x))
  refine⟨Y,p,m,P,F,c,e,B,Cj h (G u X h) S,fun s H C U=>?_,fun s H C U=>?_,fun s H C U=>?_,fun x=>sK S _ x,rfl⟩
  .exact tg_ok h.calm rfl o (fun x z=>⟨.inl ((i s H C U).local z),.inr ((i s H C U).local z)⟩) A
  .cases k with
   | nil=>cases t;exact PIfs.none
   | cons a r=>
    cases r with
    | nil=>exact PIfs.one ((G _ _ (i s H C U) a).b c t)
    | cons _ _=>cases t
  .exact (G _ _ (i s H C U) l).v e D
 .cases q
theorem tF {u:Cn}{X:Cx} (h:XOk u X) {n:Nat} (G:rS n) {e O iter:Expr}{a:Ab}{j:Scope}{E:Pos}{f:EV} (q:nc u (fun c x=>tr c n x) e O iter a j=some f) :
  PE X (.ListComp e [⟨O,iter,a,0⟩] j E) (tV X.K f)/\∀(i:Nat) {x:Str}{b s:Pos},X.N.Nodup->swapsWith (.ListComp e [⟨O,iter,a,0⟩] j E) (some (.Name x b)) s.line X.env=pure true->X.N[i]? = some x->L2.Loc X.env.scope x->(X.fn x=true\/X.env.scope.names.lookup x=some .local) ->
   PS X (.Assign [.Name x b] (.ListComp e [⟨O,iter,a,0⟩] j E) s) (ku X.K (ak i (eV f))):=by
 obtain⟨Y,p,m,H,S,z,o,B,r,t,v,d,w,rfl⟩:=tG h G q;exact⟨CP B h.calm r t v d w,fun i x b s N y k l g=>CG i N B h.calm r t v d y w k l g⟩
variable {o:Expr}
theorem gq (h:nH u n o=true) (a:x≠("__class__":Str)):attributeBase o x J (eval o J)=eval o J:=by
 cases n with
 | zero=>cases h
 | succ n=>
  cases o with
  | Call f Q k p=>
   cases f with
   | Attribute o m q=>rfl
   | _=>cases h
  | _=>first | (cases h;done) | rfl
theorem na (h:se e=some B):∃c p,e=.Tuple B c p:=by
 unfold se at h;split at h
 .cases h;exact⟨_,_,rfl⟩
 .cases h
variable {Q:Ab}{a:Expr}
theorem yw (h:yx Q=some a):∃p,Q=[a,.List [] p]:=by
 unfold yx at h;split at h
 .cases h;exact⟨_,rfl⟩
 .cases h
variable {m:Str}
theorem qA (h:EU u o m s k c=true):m=s/\nH u 4 o=true/\(k.endLine == c.line)=true:=by unfold EU at h;simp only [Bool.and_eq_true] at h;exact⟨of_decide_eq_true h.1.1,h.1.2,h.2⟩
theorem g6 (h:xg o=true):attributeBase o x J (eval o J)=eval o J:=by unfold xg at h;split at h;all_goals first | rfl | cases h
theorem BF (h:∀e ∈ Q,dH e) (l:Q.length < 29):methodCallForm (Q.length+([]:List Keyword).length) (backTo E (starEach Q J)) (backToKw E (keywordEach [] J))=true:=by
 unfold methodCallForm;have a:=iV (J:=J) (E:=E) h;have s:(backTo E (starEach Q J)).all (fun x=>!x.1)=true:=by
  rw [bn];intro x k;cases b:x.1 with
  | false=>rfl
  | true=>have:(backTo E (starEach Q J)).any (·.1)=true:=pJ.mpr ⟨x,k,b⟩;rw [a] at this;cases this
 rw [s];have n:(backToKw E (keywordEach [] J))=[]:=rfl;rw [n];simp;lia
theorem qh (h:XOk u X) (g:∀x,Good X x (tr u n x)):Good X (.Call (.Attribute o m k) r [] b) (ET u (tr u n o).e o m (r.map fun x=>(tr u n x).e) k b):=by
 unfold ET;split
 .rename_i c;simp only [Bool.and_eq_true] at c;have l:r.length < 29:=by have:=of_decide_eq_true c.2;rwa [b8] at this
  refine .ofE (fun f q=>?_) fun _ _=>rfl;obtain⟨x,p,q⟩:=ao q;obtain⟨a,v,rfl⟩:=au q;obtain⟨d,s⟩:=kt (fun e _=>g e) v;have t:=DS (o:=o) (y:=m) (j:=k) (J:=b) (r:=r) (v:=X.env) (g6 c.1.1) (BF s l) c.1.2;cases r with
  | nil=>cases v;exact CL h.meths ((g o).e x p) t
  | cons e B=>exact Fq h.meths ((g o).e x p) d (s e List.mem_cons_self _ _) (iV fun y w=>s y (aY _ w)) t
 .exact .no
variable {f:Str}{U:Pos}
theorem Bp (h:XOk u X) (r:u.I f=some g) (t:df u.ks f [.globalImplicit]=true) (q:iK f=true) (b:PA X (a::Q) (wL X.K s)) (n:∀e ∈ a::Q,dH e) :
  PE X (.Call (.Name f U) (a::Q) [] E) (tE X.K (pf g f s)):=by
 obtain⟨C,k,d,w,i,x,p,mk,G,v,c⟩:=h.mks f g r;exact Fs mk G v (h.gl t) p x c b (fy q).1 (n a List.mem_cons_self _ _) (iV fun e m=>n e (aY _ m))
theorem vn:∀n,rS n
 | 0=>fun u X h e=>Good.no
 | n+1=>by
  have G:=vn n;intro u X h e;have g:=G u X h;unfold tr;split
  .split
   .exact .ofV (fun f q=>by cases q;exact Jg) fun _ _=>rfl
   .exact .ofV (fun f q=>by cases q;exact La) fun _ _=>rfl
   .exact .ofV (fun f q=>by cases q;exact Ja) fun _ _=>rfl
   .exact .ofV (fun f q=>by cases q;exact IZ) fun _ _=>rfl
   .exact .no
  .split
   .rename_i x p m;rw [Bool.and_eq_true] at m;refine .ofE (fun f q=>?_) fun _ _=>rfl
    obtain⟨i,s,rfl⟩:=au q;exact IW i (h.get s) (h.vis m.1) (fy m.2).1 (fy m.2).2
   .split
    .rename_i m;rw [Bool.and_eq_true] at m;refine .ofV (fun f q=>?_) fun _ _=>rfl
     obtain⟨v,s,q⟩:=ao q;split at q
     .cases q
     .rename_i hd;cases q;exact Ft (h.gl m.1) ((h.glb _ v s).1 (by simpa using hd)) (fy m.2).1
    .exact .no
  .refine .ofV (fun f q=>?_) fun _ _=>rfl;obtain⟨o,s,q⟩:=ao q;obtain⟨x,k,q⟩:=ao q;obtain⟨y,d,rfl⟩:=au q;exact K9 (EC h s) ((g _).v x k) ((g _).v y d)
  .split
   .refine .ofV (fun f q=>?_) fun _ _=>rfl;obtain⟨x,s,rfl⟩:=au q;exact Jb ((g _).v x s)
   .refine .ofB (fun f q=>?_) fun f q=>?_
    .obtain⟨x,s,rfl⟩:=au q;exact IS ((g _).b x s)
    .obtain⟨x,s,rfl⟩:=au q;exact I_ ((g _).w x s)
   .exact .no
  .exact .ofB (fun f q=>(rX (fun e _=>g e) q).pt) fun f q=>rY (fun e _=>g e) q
  .split
   .refine .ofC (fun f q=>?_) fun f q=>?_
    .split at q
     .rename_i Z s;obtain⟨x,k,q⟩:=ao q;obtain⟨y,d,rfl⟩:=au q;exact Ji (lC s) ((g _).v x k) ((g _).v y d) (tD _ s)
     .obtain⟨o,s,q⟩:=ao q;obtain⟨x,k,q⟩:=ao q;obtain⟨y,d,rfl⟩:=au q;exact Fw (wm h s) ((g _).e x k) ((g _).e y d) (vJ (by rw [d];rfl))
    .split at q
     .rename_i Z s;obtain⟨x,k,q⟩:=ao q;obtain⟨y,d,rfl⟩:=au q;exact IT (lC s) ((g _).v x k) ((g _).v y d) (tD _ s)
     .obtain⟨o,s,q⟩:=ao q;obtain⟨x,k,q⟩:=ao q;obtain⟨y,d,rfl⟩:=au q;exact Fk (wm h s) ((g _).e x k) ((g _).e y d) (vJ (by rw [d];rfl))
   .refine .ofC (fun f q=>?_) fun f q=>?_
    .obtain⟨o,s,q⟩:=ao q;obtain⟨o',k,q⟩:=ao q;obtain⟨x,d,q⟩:=ao q;obtain⟨y,V,q⟩:=ao q;obtain⟨z,D,rfl⟩:=au q;exact CQ (lC s) (lC k) ((g _).v x d) ((g _).v y V) ((g _).v z D) (sF (by rw [D];rfl))
    .obtain⟨o,s,q⟩:=ao q;obtain⟨o',k,q⟩:=ao q;obtain⟨x,d,q⟩:=ao q;obtain⟨y,V,q⟩:=ao q;obtain⟨z,D,rfl⟩:=au q;exact CH (lC s) (lC k) ((g _).v x d) ((g _).v y V) ((g _).v z D) (sF (by rw [D];rfl))
   .exact .no
  .rename_i c a b p;have O:∀f,((tr u n c).b.bind fun q=>(tr u n a).v.bind fun x=>(tr u n b).v.map fun y=>B6 q x y)=some f->PE X (.IfExp c a b p) (tV X.K f):=fun f q=>by
    obtain⟨o,s,q⟩:=ao q;obtain⟨x,k,q⟩:=ao q;obtain⟨y,d,rfl⟩:=au q;exact K' ((g _).b o s) ((g _).v x k) ((g _).v y d)
   refine⟨O,fun f q=>?_,fun f q=>(by cases q),fun f q=>?_⟩
   .obtain⟨x,s,rfl⟩:=au (show Option.map eV _=some f from q);exact EN (O _ s)
   .obtain⟨x,s,rfl⟩:=au (show Option.map bV _=some f from q);exact vb (O _ s)
  .refine .ofV (fun f q=>?_) fun _ _=>rfl;obtain⟨x,s,rfl⟩:=au q;exact IY (gc (fun e _=>g e) s).1
  .refine .ofV (fun f q=>?_) fun _ _=>rfl;obtain⟨x,s,rfl⟩:=au q;exact Jc (gc (fun e _=>g e) s).1
  .split
   .exact⟨fun f q=>(by cases q;exact IX x5),fun f q=>(by cases q;exact x5),fun f q=>(by cases q),fun f q=>(by cases q)⟩
   .exact .no
  .split
   .split
    .exact .no
    .rename_i st _ N;cases st with
     | some _=>exact absurd rfl N
     | none=>refine .ofV (fun f q=>?_) fun _ _=>rfl;obtain⟨x,s,q⟩:=ao q;obtain⟨y,k,q⟩:=ao q;obtain⟨z,d,rfl⟩:=au q;exact I0 ((g _).v x s) (yd g k) (yd g d)
   .split
    .split
     .rename_i L;obtain⟨c,p,rfl⟩:=na L;refine .ofE (fun f q=>?_) fun _ _=>rfl
      obtain⟨x,s,q⟩:=ao q;obtain⟨y,k,rfl⟩:=au q;exact Je (by have:=h.hu;lia) ((g _).e x s) (gc (fun e _=>g e) k).1 fun _ _=>rfl
     refine .ofE (fun f q=>?_) fun _ _=>rfl;obtain⟨x,s,q⟩:=ao q;obtain⟨y,k,rfl⟩:=au q;exact Jf (by have:=h.hu;lia) ((g _).e x s) ((g _).v y k) (nu (by rw [k];rfl))
    .refine .ofV (fun f q=>?_) fun _ _=>rfl;obtain⟨x,s,q⟩:=ao q;obtain⟨y,k,rfl⟩:=au q;exact K_ (by have:=h.hu;lia) ((g _).v x s) ((g _).v y k) (nu (by rw [k];rfl))
  .rename_i fn w kws cp;split
   .exact .no
   .split
    .rename_i f U;split
     .rename_i m;rw [Bool.and_eq_true] at m;split
      .rename_i gf E;split
       .exact .no
       .rename_i S j;refine .ofE (fun f q=>?_) fun _ _=>rfl
        obtain⟨x,s,rfl⟩:=au q;obtain⟨l,H⟩:=kt (fun e _=>g e) s;cases w with
        | nil=>exact absurd rfl j
        | cons a Q=>exact Bp h E m.1 m.2 l H
      split
      .rename_i gf E;split
       .exact .no
       .rename_i S j;split
        .refine .ofV (fun f q=>?_) fun _ _=>rfl;obtain⟨x,s,rfl⟩:=au q;obtain⟨l,H⟩:=kt (fun e _=>g e) s;cases w with
         | nil=>exact absurd rfl j
         | cons a Q=>exact (tM h E m.1 m.2 l H).1
        .refine .ofV (fun f q=>?_) fun _ _=>rfl;obtain⟨x,s,rfl⟩:=au q;obtain⟨l,H⟩:=gc (fun e _=>g e) s;cases w with
         | nil=>exact absurd rfl j
         | cons a Q=>exact BS h E m.1 m.2 l H
      .split
       .exact .no
       .rename_i a;split
        .rename_i C;subst C;refine .ofV (fun f q=>?_) fun _ _=>rfl
         obtain⟨x,s,rfl⟩:=au q;exact Jd (h.gl m.1) (h.blt _ (by decide)) ((g _).e x s) (bv (.inr (by rw [s];rfl)) _ _)
        .split
         .rename_i C;subst C;refine .ofV (fun f q=>?_) fun _ _=>rfl
          obtain⟨x,s,rfl⟩:=au q;exact x4 (h.gl m.1) (h.blt _ (by decide)) ((g _).e x s) (bv (.inr (by rw [s];rfl)) _ _)
         .split
          .rename_i b M;obtain⟨rfl,r,p2,Y,rfl,P⟩:=ze M;refine .ofV (fun f q=>?_) fun _ _=>rfl
           obtain⟨x,s,rfl⟩:=au q;obtain⟨rfl,P⟩:=mM P;exact Ax h.calm (h.gl m.1) (h.blt _ (by decide)) (h.gl P) (h.blt _ (by decide)) ((g _).v x s) (bv (.inl (by rw [s];rfl)) _ _)
          .split
           .rename_i z M;obtain⟨b,c⟩:=z;obtain⟨rfl,r,p2,Y,rfl,P⟩:=wB M;refine .ofE (fun f q=>?_) fun _ _=>rfl
            obtain⟨x,s,q⟩:=ao q;obtain⟨y,k,rfl⟩:=au q;obtain⟨rfl,P⟩:=mM P;have A:dH b:=bv (.inl (by rw [s];rfl));have R:dH c:=bv (.inl (by rw [k];rfl));have I:starEach [c] X.env=[(false,eval c X.env)]:=R _ _;exact CN h.calm (h.gl m.1) (h.blt _ (by decide)) (h.gl P) (h.blt _ (by decide)) ((g _).v x s) ((g _).v y k) (by rw [A,I]) I PyProof.Rows.boot_zip
           refine .ofV (fun f q=>?_) fun _ _=>rfl;obtain⟨o,s,q⟩:=ao q;obtain⟨x,k,rfl⟩:=au q;obtain⟨l,H⟩:=gc (B:=[a]) (fun e _=>g e) k;exact ED h s m.1 l H
       .rename_i a t tp;split
        .rename_i C;subst C;split
         .rename_i ht;split
          .rename_i T s;refine .ofV (fun f q=>?_) fun _ _=>rfl
           obtain⟨x,k,rfl⟩:=au q;exact Eg h s m.1 ht ((g _).e x k) (bv (.inr (by rw [k];rfl)))
          .exact .no
         .exact .no
        .exact .no
       .exact .no
     .exact .no
    .split
     .split
      .rename_i m;obtain⟨rfl,F,K⟩:=qA m;refine .ofE (fun f q=>?_) fun _ _=>rfl
       obtain⟨x,s,q⟩:=ao q;obtain⟨y,k,rfl⟩:=au q;exact AB ((g _).e x s) ((g _).e y k) (bv (.inr (by rw [k];rfl)) _ _) (gq F (by decide)) K
      .split
       .rename_i m;obtain⟨rfl,F,K⟩:=qA m;refine .ofE (fun f q=>?_) fun _ _=>rfl
        obtain⟨x,s,q⟩:=ao q;obtain⟨y,k,rfl⟩:=au q;exact AA ((g _).e x s) ((g _).v y k) (bv (.inl (by rw [k];rfl)) _ _) (gq F (by decide)) K
       .split
        .rename_i m;simp only [Bool.and_eq_true] at m;have J:=of_decide_eq_true m.1.1;subst J;refine .ofV (fun f q=>?_) fun _ _=>rfl
         obtain⟨x,s,q⟩:=ao q;obtain⟨y,k,rfl⟩:=au q;exact CM h.hu ((g _).v x s) ((g _).v y k) (bv (.inl (by rw [k];rfl)) _ _) (g6 m.1.2) m.2
        .split
         .rename_i L;obtain⟨c,p,rfl⟩:=na L;split
          .rename_i m;obtain⟨rfl,F,K⟩:=qA m;refine .ofE (fun f q=>?_) fun _ _=>rfl
           obtain⟨x,s,q⟩:=ao q;obtain⟨y,k,rfl⟩:=au q;exact Fu (by have:=h.hu;lia) ((g _).e x s) (gc (fun e _=>g e) k).1 ⟨gq F (by decide),rfl,K,rfl⟩
          .exact qh h g (r:=[_])
         .exact qh h g (r:=[_])
     .rename_i w _ _;split
      .rename_i m;simp only [Bool.and_eq_true] at m;have J:=of_decide_eq_true m.1.1;subst J;split
       .rename_i a b _;refine .ofV (fun f q=>?_) fun _ _=>rfl
        obtain⟨x,s,q⟩:=ao q;obtain⟨y,k,q⟩:=ao q;obtain⟨z,d,rfl⟩:=au q;have A:dH a:=bv (.inl (by rw [k];rfl));have R:dH b:=bv (.inl (by rw [d];rfl));have I:starEach [b] X.env=[(false,eval b X.env)]:=R _ _;have W:starEach [a,b] X.env=[(false,eval a X.env),(false,eval b X.env)]:=by rw [A,I]
        exact CK (by have:=h.hu;lia) ((g _).v x s) ((g _).v y k) ((g _).v z d) ⟨g6 m.1.2,by rw [W];rfl,m.2,by rw [W];rfl⟩
       .exact .no
      .split
       .rename_i B;obtain⟨p,rfl⟩:=yw B;split
        .rename_i m;obtain⟨rfl,F,K⟩:=qA m;refine .ofE (fun f q=>?_) fun _ _=>rfl
         obtain⟨x,s,q⟩:=ao q;obtain⟨y,k,rfl⟩:=au q;have A:dH _:=bv (.inl (by rw [k];rfl));exact Az ((g _).e x s) ((g _).v y k) (B4 BZ) ⟨gq F (by decide),by rw [A];rfl,K,by rw [A];rfl⟩
        .exact qh h g
       .exact qh h g
    .exact .no
  .split
   .rename_i m;refine .ofE (fun f q=>?_) fun _ _=>rfl
    obtain⟨x,s,rfl⟩:=au q;exact Jh h.attrs ((g _).e x s) (g6 m)
   .exact .no
  .split
   .refine .ofV (fun f q=>?_) fun _ _=>rfl;exact (tF h G q).1
   .exact .no
  .exact .no
theorem yg (h:XOk u X) (n:Nat):∀(k:Nat) {e:Expr}{f:EE},FI u n k e=some f->PE X e (tE X.K f)
 | k,e,f,q=>by
  have g:=vn n u X h;unfold FI at q;split at q
  .rename_i v U r p;split at q
   .rename_i c;simp only [Bool.and_eq_true] at c;split at q
    .rename_i d m;obtain⟨x,t,rfl⟩:=au q;obtain⟨s,b⟩:=kt (fun e _=>g e) t;cases r with
     | nil=>simp at c
     | cons a Q=>exact (tM h m c.1.1.1 c.1.1.2 s b).2
    .exact (g _).e f q
   .exact (g _).e f q
  .exact (g _).e f q
noncomputable def uj (T:Stmt->Option ES):List Stmt->Option ES
 | []=>some ei
 | [s]=>T s
 | s::r=>(T s).bind fun f=>(uj T r).map fun g=>ac f g
noncomputable def Co:Expr->Option (Ab)
 | .List B _=>some B
 | _=>none
noncomputable def j7:Expr->Bool
 | .ListComp ..=>true
 | _=>false
noncomputable def Ei:Expr->Bool
 | .Dict [] [] _=>true
 | _=>false
theorem BB (h:Ei e=true):∃p,e=.Dict [] [] p:=by
 unfold Ei at h;split at h
 .exact⟨_,rfl⟩
 .cases h
theorem jE (h:j7 e=false):∀a b c d,e≠.ListComp a b c d:=fun a b c d z=>by subst z;cases h
noncomputable def C1 (u:Cn):Nat->Stmt->Option ES
 | 0,_=>none
 | n+1,st=>match st with
  | .Assign p v _=>match p with
   | [t]=>(match t with
   | .Name x _=>if df u.ks x [.local,.cell]=true then (kE u.N x).bind fun i=>if (u.deep.contains x && !j7 v)=true then (FI u n 5 v).map (ak i) else match Co v with
    | some B=>if u.own.contains x=true then (oj (B.map fun y=>(tr u n y).v)).map fun a=>ak i (cu a) else (tr u n v).e.map (ak i)
    | none=>(tr u n v).e.map (ak i)
   else none
   | .Subscript o i _=>(match se i with
   | some B=>(tr u n o).e.bind fun x=>(oj (B.map fun z=>(tr u n z).v)).bind fun y=>if j7 v=true then none else (tr u n v).v.map fun z=>vr x y z
   | none=>(tr u n o).e.bind fun x=>(tr u n i).v.bind fun y=>if j7 v=true then none else (tr u n v).v.map fun z=>fo x y z)
   | .Attribute o f _=>if (Ei v && u.deep.contains f)=true then (tr u n o).e.map fun x=>kx u.A x f qQ else if j7 v=true then none else (tr u n o).e.bind fun x=>(FI u n 5 v).map fun z=>kx u.A x f z
   | .Tuple B c h=>if (j7 v || zt v)=true then none else (yb u.N u.ks [.local,.cell] (.Tuple B c h)).bind fun g=>(tr u n v).v.map fun z=>sg g z
   | _=>none)
   | _=>none
  | .Return r _=>r.bind fun e=>(tr u n e).e.map aK
  | .Expr e _=>if j7 e=true then none else (tr u n e).e.map bL
  | .Raise ..=>some nl
  | .If c a b _=>(tr u n c).b.bind fun q=>(uj (C1 u n) a).bind fun x=>(uj (C1 u n) b).map fun y=>dY q x y
  | .For O iter d l _=>if l.isEmpty=false then none else (yb u.N u.ks [.local,.cell] O).bind fun g=>(yf u (fun y=>tr u n y) O iter).bind fun s=>(uj (C1 u n) d).map fun b=>b7 s g b
  | _=>none
theorem ji {v:Expr}{t:Option Expr}{line:Nat}{J:Env} (h:∀a b c d,v≠.ListComp a b c d) (x:∀a b c d,v≠.SetComp a b c d) (s:∀a b c d e,v≠.DictComp a b c d e):swapsWith v t line J=pure false:=by cases v <;> first | rfl | exact absurd rfl (h _ _ _ _) | exact absurd rfl (x _ _ _ _) | exact absurd rfl (s _ _ _ _ _)
theorem sv (h:(tr u n e).e.isSome=true):(∀a b c d,e≠.SetComp a b c d)/\∀a b c d f,e≠.DictComp a b c d f:=by
 cases n with
 | zero=>cases h
 | succ n=>exact⟨fun a b c d z=>(by subst z;cases h),fun a b c d f z=>(by subst z;cases h)⟩
theorem Jk {u:Cn}{n:Nat}{e:Expr}{f:EV} (h:(tr u n e).v=some f) (l:∀a b c d,e≠.ListComp a b c d):(∀a b c d,e≠.SetComp a b c d)/\∀a b c d g,e≠.DictComp a b c d g:=by
 cases n with
 | zero=>cases h
 | succ n=>exact⟨fun a b c d z=>(by subst z;cases h),fun a b c d f z=>(by subst z;cases h)⟩
theorem B9 {u:Cn}{n k:Nat}{e:Expr}{f:EE} (h:FI u n k e=some f):(∀a b c d,e≠.SetComp a b c d)/\∀a b c d g,e≠.DictComp a b c d g:=by
 cases n with
 | zero=>exact⟨fun a b c d z=>(by subst z;cases h),fun a b c d f z=>(by subst z;cases h)⟩
 | succ n=>exact⟨fun a b c d z=>(by subst z;cases h),fun a b c d f z=>(by subst z;cases h)⟩
theorem sk (h:(tr u n e).v.isSome=true):og e:=by
 intro o E J v;cases n with
 | zero=>cases h
 | succ n=>cases e <;> first | rfl | cases h
theorem y6 (h:zt l=false):swappedStores [.Tuple B c s] l J=pure none:=by cases l <;> first | rfl | cases h
theorem AJ {u:Cn}{n:Nat}{e:Expr}{g:List Comprehension}{j:Scope}{E:Pos}{f:EE} (h:(tr u n (.ListComp e g j E)).e=some f) :
  ∃k O iter i s,n=k+1/\g=[⟨O,iter,i,0⟩]/\nc u (fun a x=>tr a k x) e O iter i j=some s/\f=eV s:=by
 cases n with
 | zero=>cases h
 | succ n=>
  unfold tr at h;dsimp only at h;split at h
  .obtain⟨x,q,rfl⟩:=au (show Option.map eV _=some f from h);exact⟨n,_,_,_,x,rfl,rfl,q,rfl⟩
  .cases h
theorem kr (h:∀st f,T st=some f->PS X st (ku X.K f)):∀{a:List Stmt}{f:ES},uj T a=some f->ms X a (ku X.K f)
 | [],f,q=>by cases q;exact IP
 | [s],f,q=>IN (h s f q)
 | s::t::r,f,q=>by obtain⟨x,e,q⟩:=ao q;obtain⟨y,n,rfl⟩:=au q;exact Fh (h s x e) (kr h n)
theorem yc {u:Cn}{X:Cx} (h:XOk u X) (r:∀x,X.fn x=true) (R:PassesOwn (model X.prog X.w) X.A X.env X.xe):∀n (st:Stmt) (f:ES),C1 u n st=some f->PS X st (ku X.K f)
 | 0,st,f,q=>by cases q
 | n+1,st,f,q=>by
  have J:=yc h r R n;have g:=vn n u X h;unfold C1 at q;split at q
  .split at q
   .split at q
    .rename_i v K _ _ x A;split at q
     .rename_i P;obtain⟨i,qi,q⟩:=ao q;split at q
      .rename_i hd;rw [Bool.and_eq_true] at hd;obtain⟨M,s,rfl⟩:=au q;obtain⟨t,w⟩:=B9 s;exact Av i h.nd (yg h n 5 s) (h.get qi) (h.loc P) (ji (jE (by simpa using hd.2)) t w) (.inl (r x))
      have plain:(tr u n v).e.map (ak i)=some f->PS X (.Assign [.Name x A] v K) (ku X.K f):=fun q=>by
       obtain⟨M,s,rfl⟩:=au q;by_cases Q:∃a b c d,v=.ListComp a b c d
       .obtain⟨a,b,c,d,rfl⟩:=Q;obtain⟨k,O,iter,F,Y,rfl,rfl,j,rfl⟩:=AJ s;have L:=tF (E:=d) h (vn k) j;have C:swapsWith (.ListComp a [⟨O,iter,F,0⟩] c d) (some (.Name x A)) K.line X.env=pure (X.env.blockKind == .function && X.env.kindOf x == some .local && A.line == (Expr.ListComp a [⟨O,iter,F,0⟩] c d).pos.line
         && !(c.names.any fun (n,k)=>n == x && (k == .local || k == .cell))):=rfl
        cases N:(X.env.blockKind == .function && X.env.kindOf x == some .local && A.line == (Expr.ListComp a [⟨O,iter,F,0⟩] c d).pos.line && !(c.names.any fun (n,k)=>n == x && (k == .local || k == .cell))) with
        | true=>rw [N] at C;exact L.2 i h.nd C (h.get qi) (h.loc P) (.inl (r x))
        | false=>rw [N] at C;exact Av i h.nd (EN L.1) (h.get qi) (h.loc P) C (.inl (r x))
       .have l:∀a b c d,v≠.ListComp a b c d:=fun a b c d z=>Q ⟨a,b,c,d,z⟩;obtain⟨t,w⟩:=sv (show (tr u n v).e.isSome=true by rw [s];rfl);exact Av i h.nd ((g v).e M s) (h.get qi) (h.loc P) (ji l t w) (.inl (r x))
      split at q
      .rename_i B S;split at q
       .obtain⟨a,s,rfl⟩:=au q;unfold Co at S;split at S
        .cases S;exact Av i h.nd (B4 (gc (fun e _=>g e) s).1) (h.get qi) (h.loc P) rfl (.inl (r x))
        .cases S
       .exact plain q
      .exact plain q
     .cases q
    .rename_i v K _ _ o i Z;split at q
     .rename_i T;obtain⟨c,p,rfl⟩:=na T;obtain⟨x,s,q⟩:=ao q;obtain⟨y,j,q⟩:=ao q;split at q
      .cases q
      .rename_i m;obtain⟨z,H,rfl⟩:=au q;have l:∀a b c d,v≠.ListComp a b c d:=jE (by simpa using m);obtain⟨t,w⟩:=Jk H l;exact Fc (by have:=h.hu;lia) ((g o).e x s) (gc (fun e _=>g e) j).1 ((g v).v z H) (ji l t w)
     obtain⟨x,s,q⟩:=ao q;obtain⟨y,j,q⟩:=ao q;split at q
     .cases q
     .rename_i m;obtain⟨z,H,rfl⟩:=au q;have l:∀a b c d,v≠.ListComp a b c d:=jE (by simpa using m);obtain⟨t,w⟩:=Jk H l;exact Fe (by have:=h.hu;lia) ((g o).e x s) ((g i).v y j) ((g v).v z H) (ji l t w) rfl (sk (by rw [j];rfl))
    .rename_i v K _ _ o f W;split at q
     .rename_i hd;rw [Bool.and_eq_true] at hd;obtain⟨p,rfl⟩:=BB hd.1;obtain⟨x,s,rfl⟩:=au q;exact Ff h.attrs ((g o).e x s) CO (ji (fun _ _ _ _ z=>nomatch z) (fun _ _ _ _ z=>nomatch z) fun _ _ _ _ _ z=>nomatch z)
     split at q
     .cases q
     .rename_i m;obtain⟨x,s,q⟩:=ao q;obtain⟨z,j,rfl⟩:=au q;obtain⟨t,w⟩:=B9 j;exact Ff h.attrs ((g o).e x s) (yg h n 5 j) (ji (jE (by simpa using m)) t w)
    .rename_i v K _ _ B c p;split at q
     .cases q
     .rename_i m;rw [ja,not_or] at m;obtain⟨U,s,q⟩:=ao q;obtain⟨z,H,rfl⟩:=au q;have l:∀a b c d,v≠.ListComp a b c d:=jE (by simpa using m.1);obtain⟨t,w⟩:=Jk H l;exact IK ((g v).v z H) (tg_ok h.calm h.hN h.nd (fun x I=>⟨h.loc I,.inl (r x)⟩) s) (show swapsWith v (some (.Tuple B c p)) K.line X.env=pure false from ji l t w) (y6 (by simpa using m.2)) rfl
    .cases q
   .cases q
  .obtain⟨e,rfl,q⟩:=ao q;obtain⟨x,s,rfl⟩:=au q;exact IL ((g _).e x s)
  .split at q
   .cases q
   .rename_i m;obtain⟨x,s,rfl⟩:=au q;obtain⟨t,w⟩:=sv (by rw [s];rfl);exact Fg ((g _).e x s) (ji (jE (by simpa using m)) t w)
  .cases q;exact CF
  .obtain⟨c,s,q⟩:=ao q;obtain⟨x,j,q⟩:=ao q;obtain⟨y,H,rfl⟩:=au q;exact K6 ((g _).b c s) (kr J j) (kr J H)
  .split at q
   .cases q
   rename_i D _ G;obtain⟨U,V,q⟩:=ao q;obtain⟨it,s,q⟩:=ao q;obtain⟨b,j,rfl⟩:=au q;cases D with
   | cons _ _=>exact absurd rfl G
   | nil=>
   exact IQ R h.calm (Cj h g s) (tg_ok h.calm h.hN h.nd (fun x I=>⟨h.loc I,.inl (r x)⟩) V) (kr J j) fun x=>sK s _ x
  .cases q
structure Df where
 name:Str
 short:Str
 cls:Str
 st:Stmt
 N:LS
 ps:LS
 own:LS
 deep:LS
 refs:LS
noncomputable abbrev At:=List (Str×LS)
noncomputable def aT (T:At) (c f:Str):Bool:=T.any fun x=>decide (x.1=c) && x.2.contains f
noncomputable def fT (D:List Df) (h:Str->GF) (x:Str):Option GF:=if (D.any fun d=>decide (d.name=x) && d.cls.cps.isEmpty)=true then some (h x) else none
noncomputable def Cm (c m:Str) (d:Df):Bool:=decide (d.cls=c) && decide (d.short=m) && !d.cls.cps.isEmpty
noncomputable def mT (D:List Df) (h:Str->GF) (c m:Str):Option GF:=if m=("__init__":Str) then none else (D.find? (Cm c m)).map fun d=>h d.name
noncomputable def J2 (D:List Df) (h:Str->GF) (c:Str):Option GF:=(D.find? (Cm c "__init__")).map fun d=>h d.name
noncomputable abbrev P3:=(Str->GF)×(Str->Option GF)
noncomputable def J5 (G:Str->Option P) (T:At) (D:List Df) (p:P3) (d:Df):Cn:=⟨d.N,d.own,d.deep,d.refs,(aP d.st).names,fT D p.1,G,aT T,mT D p.1,p.2⟩
noncomputable def rK (G:Str->Option P) (T:At) (D:List Df) (p:P3) (d:Df):ES:=(uj (C1 (J5 G T D p d) 60) (dJ d.st)).getD nl
noncomputable def rO (G:Str->Option P) (T:At) (D:List Df):Nat->P3
 | 0=>(fun _ _ _=>none,fun _=>none)
 | n+1=>(fun x=>match D.find? fun d=>decide (d.name=x) with
  | some d=>cJ d.ps.length d.N.length (rK G T D (rO G T D n) d)
  | none=>fun _ _=>none,J2 D (rO G T D n).1)
noncomputable def HF (G:Str->Option P) (T:At) (D:List Df) (n:Nat):Str->GF:=(rO G T D n).1
noncomputable def HY (d:Df):Bool:=decide ((aP d.st).kind=.function) && !(aP d.st).isCoroutine && !(aP d.st).isGenerator && decide d.N.Nodup && decide (d.N.take d.ps.length=d.ps)
 && d.ps.all (fun x=>(aP d.st).names.lookup x == some .local || (aP d.st).names.lookup x == some .cell) && (aP d.st).names.all (fun y=>y.2 != .free)
theorem Dc (h:HY d=true):FnScope d.N d.ps (aP d.st):=by
 unfold HY at h;simp only [Bool.and_eq_true] at h;obtain⟨⟨⟨⟨⟨⟨a,e⟩,s⟩,n⟩,k⟩,f⟩,b⟩:=h;refine⟨of_decide_eq_true a,by simpa using e,by simpa using s,of_decide_eq_true n,of_decide_eq_true k,fun x c=>?_,fun y m=>?_⟩
 .have:=bn.mp f x c;simpa using this
 .have:=bn.mp b y m;simpa using this
structure DOk (K:FG) (mg:SV) (d:Df) (f:Addr) (fd:FuncData):Prop where
 fn:Fun K d.short d.name d.st f fd
 bd:Binds K fd d.ps []
 gl:d.cls.cps.isEmpty=true->mg d.name=some (.ref f)
 cl:d.cls.cps.isEmpty=false->∃C,i5 K d.cls C/\mg d.cls=some (.ref C)/\Cls K C/\(d.short=("__init__":Str)->Mk K C f)/\(d.short≠("__init__":Str)->Meth K C d.short f)
structure TOk (w:World) (G:Str->Option P) (T:At) (D:List Df) (K:FG) (mg:SV):Prop where
 fn:∀d ∈ D,∃f fd,DOk K mg d f fd
 sc:D.all HY=true
 un:(D.map (·.name)).Nodup
 z:∀x ∈ BW,mg x=none
 gl:∀x v,G x=some v->kR w K mg x v
 at':IJ K (aT T)
theorem nO:∀{D:List Df}{d:Df},(D.map (·.name)).Nodup->d ∈ D->(D.find? fun e=>decide (e.name=d.name))=some d
 | [],_,_,h=>by cases h
 | a::r,d,x,h=>by
  rw [List.map_cons,List.nodup_cons] at x;rcases bj.mp h with h | h
  .subst h;simp
  .have n:¬a.name=d.name:=fun z=>x.1 (by rw [z];exact bA.mpr ⟨d,h,rfl⟩);rw [List.find?_cons_of_neg (by simpa using n)];exact nO x.2 h
theorem Aj {D:List Df}{x:Str}{a:Str->GF}{g:GF} (h:fT D a x=some g):∃d ∈ D,d.name=x/\d.cls.cps.isEmpty=true/\g=a x:=by
 unfold fT at h;split at h
 .rename_i c;cases h;obtain⟨d,hd,e⟩:=pJ.mp c;rw [Bool.and_eq_true] at e;exact⟨d,hd,of_decide_eq_true e.1,e.2,rfl⟩
 .cases h
theorem zv (h:Cm c m d=true):d.cls=c/\d.short=m/\d.cls.cps.isEmpty=false:=by unfold Cm at h;simp only [Bool.and_eq_true] at h;exact⟨of_decide_eq_true h.1.1,of_decide_eq_true h.1.2,by simpa using h.2⟩
theorem Ak {D:List Df}{x:Str->GF}{c m:Str}{g:GF} (h:mT D x c m=some g):m≠("__init__":Str)/\∃d ∈ D,d.cls=c/\d.short=m/\d.cls.cps.isEmpty=false/\g=x d.name:=by
 unfold mT at h;split at h
 .cases h
 .rename_i n;obtain⟨d,q,rfl⟩:=au h;obtain⟨a,e,s⟩:=zv (mF q);exact⟨n,d,pU q,a,e,s,rfl⟩
theorem Al {D:List Df}{x:Str->GF}{c:Str}{g:GF} (h:J2 D x c=some g):∃d ∈ D,d.cls=c/\d.short=("__init__":Str)/\d.cls.cps.isEmpty=false/\g=x d.name:=by unfold J2 at h;obtain⟨d,q,rfl⟩:=au h;obtain⟨a,e,s⟩:=zv (mF q);exact⟨d,pU q,a,e,s,rfl⟩
theorem wd {G:Str->Option P}{T:At}{D:List Df}{Pg:Program}{w:World}{K:FG}{mg:SV}{base:Heap} (Tk:TOk w G T D K mg):∀n,(∀d ∈ D,
  ∀f fd,Fun K d.short d.name d.st f fd->FnOk Pg w K mg base pI n f fd d.ps (ol K (HF G T D n d.name))) /\
  ∀c g,(rO G T D n).2 c=some g->∃m,n=m+1/\∃C f fd ps,i5 K c C/\mg c=some (.ref C)/\Mk K C f/\FnOk Pg w K mg base pI m f fd ps (ol K g)/\Binds K fd ps []
 | 0=>⟨fun d hd f fd hF=>zK,fun c g h=>(by cases (show (none:Option GF)=some g from h))⟩
 | n+1=>by
  have ih:=wd (Pg:=Pg) (w:=w) (base:=base) Tk n;refine⟨fun d hd f fd hF=>?_,fun c g h=>?_⟩
  .have e:HF G T D (n+1) d.name=cJ d.ps.length d.N.length (rK G T D (rO G T D n) d):=by
    show (match D.find? fun d'=>decide (d'.name=d.name) with | some d=>cJ d.ps.length d.N.length (rK G T D (rO G T D n) d) | none=>fun _ _=>none)=_;rw [nO Tk.un hd]
   rw [e];have hsc:=Dc (bn.mp Tk.sc d hd);have XO:∀(cdv:Value) (A:Around) (outer:List Env) (s:Shared) (H:Hp) (E':XK),Room n (A.deeper (envOfC d.name (aP d.st) s.heap.objs.size f cdv)) ->
     XOk (J5 G T D (rO G T D n) d) (tz pI Pg w K mg base d.N d.name (aP d.st) f cdv A outer s H E').nox:=fun cdv A outer s H E' hr=>{
    hN:=rfl
    nd:=hsc.nd
    ks:=rfl
    kd:=hsc.kind
    calm:=rfl
    hu:=by have:=hr.un;show (A.deeper (envOfC d.name (aP d.st) s.heap.objs.size f cdv)).units+64 < _;lia
    fns:=fun x g hg=>by obtain⟨d',hd',hn,hc,rfl⟩:=Aj hg;obtain⟨f',fd',h1⟩:=Tk.fn d' hd';subst hn;exact⟨n,f',fd',d'.ps,(ih.1 d' hd' f' fd' h1.fn),hr,h1.gl hc,h1.fn.kp,h1.bd⟩
    blt:=Tk.z
    glb:=Tk.gl
    attrs:=Tk.at'
    meths:=fun c m g hg=>by obtain⟨hm,d',hd',rfl,rfl,hc,rfl⟩:=Ak hg;obtain⟨f',fd',h1⟩:=Tk.fn d' hd';obtain⟨C,c1,c2,c3,c4,c5⟩:=h1.cl hc;exact⟨C,n,f',fd',d'.ps,c1,c3,c5 hm,(ih.1 d' hd' f' fd' h1.fn),hr,h1.bd⟩
    mks:=fun c g hg=>by obtain⟨m,rfl,C,f',fd',ps,c1,c2,c3,c4,c5⟩:=ih.2 c g hg;exact⟨C,m,f',fd',ps,c1,c2,c3,c4,hr,c5⟩ }
   refine El (N:=d.N) hF hsc fun cdv A outer s H E' hr=>?_;have X:=XO cdv A outer s H E' hr;unfold rK;cases q:uj (C1 (J5 G T D (rO G T D n) d) 60) (dJ d.st) with
   | none=>exact wS.imp' fun D σ H hz=>by obtain⟨F,m,L,S,fl,L',S',r,l,q,k⟩:=hz;cases q
   | some b=>exact kr (fun st f q=>yc X (fun _=>rfl) PassesOwn.never 60 st f q) q
  .obtain⟨d,hd,rfl,hs,hc,rfl⟩:=Al (x:=(rO G T D n).1) h;obtain⟨f,fd,h1⟩:=Tk.fn d hd;obtain⟨C,c1,c2,c3,c4,c5⟩:=h1.cl hc;exact⟨n,rfl,C,f,fd,d.ps,c1,c2,c4 hs,(ih.1 d hd f fd h1.fn),h1.bd⟩
theorem sM:∀s:List Int,ci K F H (s.map .int) (s.map V.int)
 | []=>rfl
 | n::r=>⟨_,_,rfl,rfl,sM r⟩
theorem D8 {K:FG}{H:Hp}{a:Addr}{n:List Int}{g:GF}{E:XK} (O:xS H) (S:gQ K H a (n.map V.int)) (h:pureOf g [.ro (n.map .int)]=some (.bl true)):ol K g [.ref a] H (fun v _=>v=.bl true) E:=by
 refine ni ⟨fun b=>b=a/\H a≠none,[.ro (n.map .int)],.bl true,fun b x=>(by rw [x.1];exact x.2),⟨_,_,rfl,⟨a,_,rfl,?_,sM n⟩,rfl⟩,h,fun v F s _ r=>r⟩;rcases S with S | S
 .rcases O a with z | ⟨o,k,z⟩
  .rcases S with S | ⟨o,S⟩ <;> rw [z] at S <;> cases S
  .rcases S with S | ⟨e,S⟩
   .rw [z] at S;cases S
   .exact .inl ⟨⟨rfl,by rw [z];exact fun q=>nomatch q⟩,e,S⟩
 .exact .inr (.inr S)
open PySem L2
section
variable (L:Lc) (S:aD)
@[simp] theorem Ko (v:P):vC v L S=some (v,S):=rfl
@[simp] theorem BK (i:Nat):aa i L S=match L[i]? with | some (some d)=>some (d,S) | _=>none:=rfl
@[simp] theorem lJ (f:EE):vE f L S=aF (f L S) (toP 9):=rfl
@[simp] theorem pe (f:EV):eV f L S=aF (f L S) fun v h=>some (.p v,h):=rfl
@[simp] theorem CV (g:P->P->Option P) (a b:EV):ab g a b L S=aF (a L S) fun x h=>aF (b L h) fun y e=>(g x y).map fun v=>(v,e):=rfl
@[simp] theorem Jl (g:P->Option P) (a:EV):CU g a L S=aF (a L S) fun x h=>(g x).map fun v=>(v,h):=rfl
@[simp] theorem K0 (a:EV):bV a L S=aF (a L S) fun x h=>match x with | .bl b=>some (b,h) | _=>none:=rfl
@[simp] theorem IB (a b:EB):fP a b L S=aF (a L S) fun c h=>if c=true then b L h else some (false,h):=rfl
@[simp] theorem Ke (a b:EB):xO a b L S=aF (a L S) fun c h=>if c=true then some (true,h) else b L h:=rfl
@[simp] theorem IA (a:EB):rM a L S=aF (a L S) fun c h=>some (!c,h):=rfl
@[simp] theorem Iz:fm L S=some (true,S):=rfl
@[simp] theorem Kq (a:EB):vB a L S=aF (a L S) fun c h=>some (.bl c,h):=rfl
@[simp] theorem Jn (c:EB) (a b:EV):B6 c a b L S=aF (c L S) fun k h=>if k=true then a L h else b L h:=rfl
@[simp] theorem x9:aN L S=some ([],S):=rfl
@[simp] theorem wC (a:EV) (r:fS):aH a r L S=aF (a L S) fun x h=>aF (r L h) fun s e=>some (x::s,e):=rfl
@[simp] theorem AE (a:fS):az a L S=aF (a L S) fun x h=>if few x=true then some (.tup x,h) else none:=rfl
@[simp] theorem HR (a:fS):aS a L S=aF (a L S) fun x h=>if few x=true then some (.lst x,h) else none:=rfl
@[simp] theorem Iq (a:fS):cu a L S=aF (a L S) fun x h=>if few x=true then some (.ref h.length,h++[.lst (x.map .p)]) else none:=rfl
@[simp] theorem FE (g:List P->Option P) (a:fS):af g a L S=aF (a L S) fun x h=>(g x).map fun v=>(v,h):=rfl
@[simp] theorem AF (r:EE):dB r L S=aF (r L S) fun d h=>match b_ d h with | some n=>some (.int (n:Int),h) | none=>none:=by
 unfold dB;cases r L S with
 | none=>rfl
 | some z=>obtain⟨d,h⟩:=z;rw [aw,aw];cases b_ d h <;> rfl
@[simp] theorem FC (r:EE):oX r L S=aF (r L S) fun d h=>match wP d h with | some s=>(jx s).map fun v=>(v,h) | none=>none:=rfl
@[simp] theorem Jm (a:EV):EQ a L S=aF (a L S) fun v h=>match v with | .int s=>if decide (s.natAbs < 1000000)=true then some (.lst (intsFrom 0 s.toNat),h) else none | _=>none:=rfl
@[simp] theorem HP (a:EV) (lo h:EO):gb a lo h L S=aF (a L S) fun x e=>aF (lo L e) fun i s=>aF (h L s) fun j n=>(zV x i j).map fun v=>(v,n):=rfl
@[simp] theorem FD (a b c:EV):vg a b c L S=aF (a L S) fun d h=>aF (b L h) fun y x=>aF (c L x) fun z e=>match d with
 | .dct s v=>match cd y with
  | some k=>some ((bM k s v).getD z,e)
  | none=>none
 | _=>none:=rfl
@[simp] theorem JB:ei L S=some (.nx,L,S):=rfl
@[simp] theorem mG (f g:ES):ac f g L S=match f L S with | some (.nx,s,k)=>g s k | r=>r:=rfl
@[simp] theorem du (i:Nat) (f:EE):ak i f L S=aF (f L S) fun d h=>some (.nx,L.set i (some d),h):=rfl
@[simp] theorem qr (f:EE):aK f L S=aF (f L S) fun d h=>some (.rt d,L,h):=rfl
@[simp] theorem ky (f:EE):bL f L S=aF (f L S) fun _ h=>some (.nx,L,h):=rfl
@[simp] theorem iH (c:EB) (a b:ES):dY c a b L S=aF (c L S) fun k h=>if k=true then a L h else b L h:=rfl
@[simp] theorem bC (i:fS) (g:i4) (b:ES):b7 i g b L S=aF (i L S) fun x h=>aO g b x L h:=rfl
@[simp] theorem Il (i:Nat) (v:P):ag i v L=some (L.set i (some (.p v))):=rfl
@[simp] theorem fW (a:EV):hG a L S=aF (a L S) fun v h=>match v with | .lst s=>some (s,h) | .ro s=>some (s,h) | .tup s=>some (s,h) | .str x=>if (x.cps.all (· < 128))=true then some (signs x,h) else none | _=>none:=rfl
@[simp] theorem jw (r:EE) (k:EV):tX r k L S=aF (r L S) fun d x=>aF (k L x) fun y h=>match d with
 | .p v=>(al v y).map fun z=>(.p z,h)
 | .ref i=>match h[i]? with
  | some (.lst s)=>(match y with
   | .int j=>(L2.atI s j).map fun z=>(z,h)
   | _=>none)
  | some (.fz v)=>(al v y).map fun z=>(.p z,h)
  | some (.dct a e)=>(match cd y with
   | some k=>(bM k a e).map fun z=>(z,h)
   | none=>none)
  | _=>none:=rfl
@[simp] theorem j_ (r a:EE):a_ r a L S=aF (r L S) fun d h=>match c_ d h with
 | none=>none
 | some _=>aF (a L h) fun x e=>match c_ d e with
  | some (i,s)=>if few s=true then some (.p .non,e.set i (.lst (s++[x]))) else none
  | none=>none:=rfl
end
variable {t:Type}
@[simp] theorem nP (x:List t):(few x=true)=(x.length≤1000000):=by unfold few;simp
@[simp] theorem kK (n:Nat):(fZ n=true)=(n≤1000000):=by unfold fZ;simp
theorem aU {t:Type}{s:List t}{i:Int}{x:t} (a:0≤i) (h:s[i.toNat]? = some x):L2.atI s i=some x:=by have l:=(List.getElem?_eq_some_iff.mp h).1;unfold L2.atI L2.xc;rw [if_pos a,if_pos (by lia)];exact h
@[simp] theorem HC (x:t) (s:List t):L2.atI (x::s) 0=some x:=aU (by lia) rfl
@[simp] theorem ID (x y:t) (s:List t):L2.atI (x::y::s) 1=some y:=aU (by lia) rfl
@[simp] theorem IC (x y z:t) (s:List t):L2.atI (x::y::z::s) 2=some z:=aU (by lia) rfl
@[simp] theorem Fa (x y z w:t) (s:List t):L2.atI (x::y::z::w::s) 3=some w:=aU (by lia) rfl
@[simp] theorem Iv (x:List P) (i:Int):al (.tup x) (.int i)=L2.atI x i:=rfl
@[simp] theorem Iw (x:List P) (i:Int):al (.lst x) (.int i)=L2.atI x i:=rfl
@[simp] theorem Kb (x:List P) (i:Int):al (.ro x) (.int i)=L2.atI x i:=rfl
@[simp] theorem Ix (k:List bz) (v:List P) (x:Str):al (.dct k v) (.str x)=bM (.inr x) k v:=rfl
@[simp] theorem Hv (i j:Int):tw (.int i) (.int j)=some (.bl (decide (i=j))):=rfl
@[simp] theorem Hu (i j:Str):tw (.str i) (.str j)=some (.bl (decide (i=j))):=rfl
@[simp] theorem Iy (i j:Bool):tw (.bl i) (.bl j)=some (.bl (decide (i=j))):=rfl
@[simp] theorem Iu (i j:Int):Ew (.int i) (.int j)=some (.bl (!decide (i=j))):=rfl
@[simp] theorem Ir (i j:Str):Ew (.str i) (.str j)=some (.bl (!decide (i=j))):=rfl
@[simp] theorem Ka (i j:Bool):Ew (.bl i) (.bl j)=some (.bl (!decide (i=j))):=rfl
@[simp] theorem Hw (i j:Int):rD (.int i) (.int j)=some (.int (i+j)):=rfl
@[simp] theorem Hs (i j:Int):rk (.int i) (.int j)=if fq i j=true then some (.int (i * j)) else none:=rfl
@[simp] theorem Hr (i:Int):uV (.int i)=some (.int (-i)):=rfl
theorem ai (e n:Nat) (b:ES) (ps:List P):pureOf (cJ e n b) ps=if ps.length=e then match b (ps.map (fun p=>some (.p p))++List.replicate (n-ps.length) none) [] with
 | some (.rt d,_,S)=>(toP 9 d S).map (·.1)
 | some (.nx,_,_)=>some .non
 | _=>none else none:=by
 unfold pureOf cJ;rw [b8,mQ];by_cases h:ps.length=e
 .rw [if_pos h,if_pos h];show (match (match b (ps.map (fun p=>some (D.p p))++List.replicate (n-ps.length) none) [] with
   | some (.rt d,_,a)=>some (d,a)
   | some (.nx,_,a)=>some (.p .non,a)
   | _=>none:Option (D×aD)) with
   | some (d,S)=>(toP 9 d S).map (fun (x:P×aD)=>x.1)
   | none=>none)=_
  cases b (ps.map (fun p=>some (D.p p))++List.replicate (n-ps.length) none) [] with
  | none=>rfl
  | some z=>obtain⟨f,L,S⟩:=z;cases f <;> simp
 .rw [if_neg h,if_neg h]
variable {v:P}
theorem bf (h:g v L=some s) (x:b s S=some (.nx,L2,k)):aO g b (v::r) L S=aO g b r L2 k:=by simp [aO,h,x]
theorem sS (h:g v L=some s) (x:b s S=some (.rt d,L2,k)):aO g b (v::r) L S=some (.rt d,L2,k):=by simp [aO,h,x]
section
variable (L:Lc) (S:aD)
@[simp] theorem HQ (g:D->D->aD->Option P) (a b:EE):aA g a b L S=aF (a L S) fun x e=>aF (b L e) fun y h=>(g x y h).map fun v=>(v,h):=rfl
@[simp] theorem K1 (a:EE):bT a L S=aF (a L S) fun d h=>(ya d h).map fun b=>(b,h):=rfl
@[simp] theorem ER (g e:P->P->Option P) (a b c:EV):k8 g e a b c L S=aF (a L S) fun x s=>aF (b L s) fun y h=>match g x y with
 | some (.bl true)=>aF (c L h) fun z n=>(e y z).map fun v=>(v,n)
 | some (.bl false)=>some (.bl false,h)
 | _=>none:=rfl
@[simp] theorem mL (a:EV):gO a L S=aF (a L S) fun v h=>match v with | .lst s=>some (aR 0 s,h) | .ro s=>some (aR 0 s,h) | .tup s=>some (aR 0 s,h) | _=>none:=rfl
@[simp] theorem vV (a:EV):hJ a L S=aF (a L S) fun x h=>match x with | .int n=>if (decide (n.natAbs < 1000000))=true then some (intsFrom 0 n.toNat,h) else none | _=>none:=by
 unfold hJ;cases a L S with
 | none=>rfl
 | some z=>obtain⟨x,h⟩:=z;cases x <;> first | rfl | simp
@[simp] theorem uQ (r:EE) (a:EV):dI r a L S=aF (r L S) fun d h=>match c_ d h with
 | none=>none
 | some _=>aF (a L h) fun x e=>match c_ d e,x with
  | some (i,s),.lst y=>if fZ (s.length+y.length)=true then some (.p .non,e.set i (.lst (s++y.map .p))) else none
  | _,_=>none:=rfl
@[simp] theorem Hl:ba L S=some ([],S):=rfl
@[simp] theorem E2 (a:EE) (r:oh):ae a r L S=aF (a L S) fun x h=>aF (r L h) fun s e=>some (x::s,e):=rfl
@[simp] theorem xz (g:GF) (a:oh):fX g a L S=aF (a L S) fun d h=>g d h:=rfl
@[simp] theorem oY (g:GF) (a:oh):cD g a L S=aF (a L S) fun s h=>aF (g s h) fun d x=>aF (toP 9 d x) fun v e=>some (v,trunc h.length e):=rfl
@[simp] theorem HS (T:String) (f:EE):AG T f L S=aF (f L S) fun d h=>(xf T d h).map fun b=>(.bl b,h):=rfl
@[simp] theorem HZ (g:i4) (f:EV):sg g f L S=aF (f L S) fun v h=>match g v L with | some s=>some (.nx,s,h) | none=>none:=rfl
@[simp] theorem Hd (g:List i4) (v:List P):aI g (.tup v) L=nL g v L:=rfl
@[simp] theorem Hc:nL [] [] L=some L:=rfl
@[simp] theorem EY (g:i4) (s:List i4) (v:P) (h:List P):nL (g::s) (v::h) L=match g v L with | some k=>nL s h k | none=>none:=rfl
@[simp] theorem J1 (T:String) (v:P):xf T (.p v) S=some (jJ T v):=rfl
@[simp] theorem Jo (v:P):ya (.p v) S=ui v:=rfl
@[simp] theorem HV (b:Bool):ui (.bl b)=some b:=rfl
@[simp] theorem FH (i:Int):ui (.int i)=some (i != 0):=rfl
@[simp] theorem KG (x y:P):dC (.p x) (.p y) S=(xt x y).map .bl:=rfl
@[simp] theorem KE (x y:P):oz (.p x) (.p y) S=(y7 x y).map .bl:=rfl
end
@[simp] theorem Ip (i j:Int):xt (.int i) (.int j)=some (decide (i=j)):=rfl
@[simp] theorem Io (i j:Str):xt (.str i) (.str j)=some (decide (i=j)):=rfl
@[simp] theorem J_ (i j:Bool):xt (.bl i) (.bl j)=some (decide (i=j)):=rfl
@[simp] theorem Ih (i j:Int):y7 (.int i) (.int j)=some (!decide (i=j)):=rfl
@[simp] theorem Ig (i j:Str):y7 (.str i) (.str j)=some (!decide (i=j)):=rfl
@[simp] theorem JT (i j:Bool):y7 (.bl i) (.bl j)=some (!decide (i=j)):=rfl
@[simp] theorem E_ (i j:Int):aq (.int i) (.int j)=some (.int (i+j)):=rfl
@[simp] theorem E8 (x y:Str):aq (.str x) (.str y)=rD (.str x) (.str y):=rfl
@[simp] theorem E9 (x y:List P):aq (.lst x) (.lst y)=if fZ (x.length+y.length)=true then some (.lst (x++y)) else none:=rfl
@[simp] theorem E6 (i j:Int):dh (.int i) (.int j)=if fq i j=true then some (.int (i * j)) else none:=rfl
@[simp] theorem E5 (x:List P) (n:Int):dh (.lst x) (.int n)=if (fZ (x.length * n.toNat) && decide (n.natAbs < 1000000))=true then some (.lst (List.replicate n.toNat x).flatten) else none:=rfl
@[simp] theorem E3 (x:List P) (n:Int):dh (.tup x) (.int n)=if (fZ (x.length * n.toNat) && decide (n.natAbs < 1000000))=true then some (.tup (List.replicate n.toNat x).flatten) else none:=rfl
@[simp] theorem E4 (x:Str) (n:Int):dh (.str x) (.int n)=rk (.str x) (.int n):=rfl
theorem zN (h:bR 20 v=true):xt v v=some true:=by
 unfold xt;have e:PyData.eqv (pd v) (pd v)=true:=pQ _ (eX 20 v h).1;cases q:tw v v with
 | none=>simp [h,e]
 | some z=>
  cases v with
  | int i=>cases q;simp
  | str i=>cases q;simp
  | bl i=>cases q;simp
  | non=>cases q
  | tup _=>cases q
  | lst _=>cases q
  | ro _=>cases q
  | dct _ _=>cases h
theorem nz (h:bR 20 v=true):y7 v v=some false:=by
 unfold y7;have e:PyData.eqv (pd v) (pd v)=true:=pQ _ (eX 20 v h).1;cases q:Ew v v with
 | none=>simp [h,e]
 | some z=>
  cases v with
  | int i=>cases q;simp
  | str i=>cases q;simp
  | bl i=>cases q;simp
  | non=>cases q
  | tup _=>cases q
  | lst _=>cases q
  | ro _=>cases q
  | dct _ _=>cases h
theorem v9 (h:bR 20 (.lst s)=true):xt (.lst s) (.lst [])=some s.isEmpty:=by
 unfold xt;have e:bR 20 (.lst [])=true:=rfl;show (if (bR 20 (.lst s) && bR 20 (.lst []))=true then some (PyData.eqv (pd (.lst s)) (pd (.lst []))) else none)=_;rw [h,e];cases s with
 | nil=>rfl
 | cons x r=>simp [pd,lg,PyData.eqv,PyData.eqvAll]
theorem kB (h:bR 20 (.lst s)=true):y7 (.lst s) (.lst [])=some (!s.isEmpty):=by
 unfold y7;have e:bR 20 (.lst [])=true:=rfl;show (if (bR 20 (.lst s) && bR 20 (.lst []))=true then some (!PyData.eqv (pd (.lst s)) (pd (.lst []))) else none)=_;rw [h,e];cases s with
 | nil=>rfl
 | cons x r=>simp [pd,lg,PyData.eqv,PyData.eqvAll]
section
variable (L:Lc) (S:aD)
@[simp] theorem BL (A:Str->Str->Bool) (o:EE) (f:Str):dF A o f L S=aF (o L S) fun d h=>match d with
 | .ref i=>match h[i]? with
  | some (.ins c k s)=>if A c f=true then (gI f k s).map fun z=>(z,h) else none
  | _=>none
 | _=>none:=rfl
@[simp] theorem H0 (A:Str->Str->Bool) (o:EE) (f:Str) (v:EE):kx A o f v L S=aF (v L S) fun y x=>aF (o L x) fun d h=>match d with
 | .ref i=>match h[i]? with
  | some (.ins c k s)=>if (A c f && decide (k.length < 900))=true then some (.nx,L,h.set i (.ins c (putK f k) (nr f y k s))) else none
  | _=>none
 | _=>none:=rfl
@[simp] theorem ie (M:Str->Str->Option GF) (o:EE) (m:Str) (Q:oh):dA M o m Q L S=aF (o L S) fun d h=>match d with
 | .ref i=>match h[i]? with
  | some (.ins c k _)=>match M c m with
   | some g=>if k.contains m=true then none else aF (Q L h) fun v x=>g (.ref i::v) x
   | none=>none
  | _=>none
 | _=>none:=rfl
@[simp] theorem Hj (g:GF) (c:Str) (Q:oh):pf g c Q L S=aF (Q L S) fun v h=>match g (.ref h.length::v) (h++[.ins c [] []]) with
 | some (.p .non,x)=>some (.ref h.length,x)
 | _=>none:=rfl
end
section
variable (L:Lc) (S:aD)
@[simp] theorem HU (a f:EV):l8 a f L S=aF (a L S) fun v x=>match v with
 | .lst p=>aF (f L x) fun y h=>(gP p y).map fun (i:Nat)=>(.int (i:Int),h)
 | .tup p=>aF (f L x) fun y h=>(gP p y).map fun (i:Nat)=>(.int (i:Int),h)
 | _=>none:=rfl
@[simp] theorem E1:qQ L S=some (.ref S.length,S++[.dtt [] []]):=rfl
@[simp] theorem wb (o:EE) (k:fS):uP o k L S=aF (o L S) fun d x=>aF (k L x) fun ps h=>match iI d h,cn ps with
 | some (_,s,v),some e=>if few ps=true then (bW e s v).map fun z=>(z,h) else none
 | _,_=>none:=rfl
@[simp] theorem sX (o:EE) (k:fS):sY o k L S=aF (o L S) fun d h=>match iI d h with
 | none=>none
 | some _=>aF (k L h) fun p x=>match iI d x,cn p with
  | some (_,s,v),some e=>if few p=true then some ((bW e s v).getD (.p .non),x) else none
  | _,_=>none:=rfl
@[simp] theorem Gb (o:EE) (k:fS) (v:EV):vr o k v L S=aF (v L S) fun y a=>aF (o L a) fun d n=>aF (k L n) fun ps h=>match iI d h,cn ps with
 | some (i,s,x),some e=>if (s.Nodup/\few s=true/\few ps=true) then some (.nx,L,h.set i (.dtt (cI e (.p y) s x).1 (cI e (.p y) s x).2)) else none
 | _,_=>none:=rfl
@[simp] theorem nT (o:EE) (k:EV) (d:EE):mO o k d L S=aF (o L S) fun x a=>match jI x a with
 | none=>none
 | some _=>aF (k L a) fun z n=>aF (d L n) fun y h=>match jI x h,cd z with
  | some (i,s,v),some e=>if (s.Nodup/\few s=true) then match bW e s v with
    | some w=>some (w,h)
    | none=>some (y,h.set i (.dct (cI e y s v).1 (cI e y s v).2))
   else none
  | _,_=>none:=rfl
@[simp] theorem EZ (f b:EV):qP f b L S=aF (f L S) fun x a=>aF (b L a) fun y h=>match x,y with
 | .lst s,.tup v=>match cn s with
  | some k=>if (k.Nodup/\few s=true/\k.length≤v.length) then some (.ref h.length,h++[.dct k ((v.take k.length).map .p)]) else none
  | none=>none
 | _,_=>none:=rfl
end
section
variable {L:Lc}{S:aD}
@[simp high] theorem LY (d:D) :aa 0 (some d::L) S=some (d,S):=rfl
@[simp high] theorem LX (d:D) (a:Option D):aa 1 (a::some d::L) S=some (d,S):=rfl
@[simp high] theorem LW (d:D) (a h:Option D):aa 2 (a::h::some d::L) S=some (d,S):=rfl
@[simp high] theorem LU (d:D) (a h x:Option D):aa 3 (a::h::x::some d::L) S=some (d,S):=rfl
@[simp high] theorem LR (d:D) (a h x e:Option D):aa 4 (a::h::x::e::some d::L) S=some (d,S):=rfl
@[simp high] theorem LQ (d:D) (a h x e s:Option D):aa 5 (a::h::x::e::s::some d::L) S=some (d,S):=rfl
@[simp high] theorem LP (d:D) (a h x e s n:Option D):aa 6 (a::h::x::e::s::n::some d::L) S=some (d,S):=rfl
@[simp high] theorem LO (d:D) (a h x e s n k:Option D):aa 7 (a::h::x::e::s::n::k::some d::L) S=some (d,S):=rfl
@[simp high] theorem LN (d:D) (a h x e s n k f:Option D):aa 8 (a::h::x::e::s::n::k::f::some d::L) S=some (d,S):=rfl
@[simp high] theorem LM (d:D) (a h x e s n k f b:Option D):aa 9 (a::h::x::e::s::n::k::f::b::some d::L) S=some (d,S):=rfl
@[simp high] theorem KU (d:D) (a h x e s n k f b c:Option D):aa 10 (a::h::x::e::s::n::k::f::b::c::some d::L) S=some (d,S):=rfl
@[simp high] theorem KS (d:D) (h x e s n k f b c m a:Option D):aa 11 (h::x::e::s::n::k::f::b::c::m::a::some d::L) S=some (d,S):=rfl
@[simp high] theorem KR (d:D) (x e s n k f b c m r a h:Option D):aa 12 (x::e::s::n::k::f::b::c::m::r::a::h::some d::L) S=some (d,S):=rfl
@[simp high] theorem KQ (d:D) (e s n k f b c m r t a h x:Option D):aa 13 (e::s::n::k::f::b::c::m::r::t::a::h::x::some d::L) S=some (d,S):=rfl
@[simp high] theorem KP (d:D) (s n k f b c m r t p a h x e:Option D):aa 14 (s::n::k::f::b::c::m::r::t::p::a::h::x::e::some d::L) S=some (d,S):=rfl
@[simp high] theorem KO (d:D) (n k f b c m r t p q a h x e s:Option D):aa 15 (n::k::f::b::c::m::r::t::p::q::a::h::x::e::s::some d::L) S=some (d,S):=rfl
@[simp high] theorem KN (d:D) (k f b c m r t p q v a h x e s n:Option D):aa 16 (k::f::b::c::m::r::t::p::q::v::a::h::x::e::s::n::some d::L) S=some (d,S):=rfl
@[simp high] theorem KL (d:D) (f b c m r t p q v w a h x e s n k:Option D):aa 17 (f::b::c::m::r::t::p::q::v::w::a::h::x::e::s::n::k::some d::L) S=some (d,S):=rfl
@[simp ↓ high] theorem LI  (x y:s):(if few ([]:List t)=true then x else y)=x:=rfl
@[simp ↓ high] theorem LH (a:t) (x y:s):(if few ([a]:List t)=true then x else y)=x:=rfl
@[simp ↓ high] theorem LG (a h:t) (x y:s):(if few ([a,h]:List t)=true then x else y)=x:=rfl
@[simp ↓ high] theorem LF (a h e:t) (x y:s):(if few ([a,h,e]:List t)=true then x else y)=x:=rfl
@[simp ↓ high] theorem LD (a h e s:t) (x y:k):(if few ([a,h,e,s]:List t)=true then x else y)=x:=rfl
@[simp ↓ high] theorem LC (a h e s n:t) (x y:k):(if few ([a,h,e,s,n]:List t)=true then x else y)=x:=rfl
@[simp ↓ high] theorem LB (a h e s n k:t) (x y:b):(if few ([a,h,e,s,n,k]:List t)=true then x else y)=x:=rfl
@[simp ↓ high] theorem LA (a h e s n k f:t) (x y:b):(if few ([a,h,e,s,n,k,f]:List t)=true then x else y)=x:=rfl
@[simp ↓ high] theorem Lz (a h e s n k f b:t) (x y:c):(if few ([a,h,e,s,n,k,f,b]:List t)=true then x else y)=x:=rfl
@[simp ↓ high] theorem Ly (a h e s n k f b c:t) (x y:r):(if few ([a,h,e,s,n,k,f,b,c]:List t)=true then x else y)=x:=rfl
@[simp ↓ high] theorem KI (a h e s n k f b c m:t) (x y:r):(if few ([a,h,e,s,n,k,f,b,c,m]:List t)=true then x else y)=x:=rfl
@[simp ↓ high] theorem KH (h e s n k f b c m r a:t) (x y:q):(if few ([h,e,s,n,k,f,b,c,m,r,a]:List t)=true then x else y)=x:=rfl
@[simp high] theorem L5 (v:P) (S:aD):toP 9 (.p v) S=some (v,S):=rfl
@[simp ↓ high] theorem KZ (x:Option (t×aD)) (f:t->aD->Option s):aF x f=match x with | some (a,S)=>f a S | none=>none:=rfl
@[simp ↓ high] theorem Lr (x y:s):(if true=true then x else y)=x:=rfl
@[simp ↓ high] theorem Ls (x y:s):(if false=true then x else y)=y:=rfl
end
end Ev
namespace My
variable {n:Nat}
theorem LL (h:1≤n):∃m,n=m+1:=⟨n-1,by lia⟩
theorem fR {n:Nat} (h:2≤n):∃m,n=m+2:=⟨n-2,by lia⟩
theorem LK (h:4≤n):∃m,n=m+4:=⟨n-4,by lia⟩
open PySem L2 Ev
noncomputable abbrev qp (x:P):Option D:=some (.p x)
noncomputable abbrev qi (x:Int):Option D:=some (.p (.int x))
noncomputable abbrev qs (x:Str):Option D:=some (.p (.str x))
noncomputable abbrev ql (x:List P):Option D:=some (.p (.lst x))
noncomputable abbrev vv (k:Nat):EV:=vE (aa k)
noncomputable abbrev vi (i:Int):EV:=vC (.int i)
noncomputable abbrev vt (x:Str):EV:=vC (.str x)
noncomputable abbrev v1 (a:EV):fS:=aH a aN
noncomputable abbrev v2 (a b:EV):fS:=aH a (aH b aN)
noncomputable abbrev v3 (a b c:EV):fS:=aH a (aH b (aH c aN))
noncomputable abbrev v4 (a b c d:EV):fS:=aH a (aH b (aH c (aH d aN)))
noncomputable abbrev v5 (a b c d e:EV):fS:=aH a (aH b (aH c (aH d (aH e aN))))
noncomputable abbrev v6 (a b c d e f:EV):fS:=aH a (aH b (aH c (aH d (aH e (aH f aN)))))
noncomputable abbrev v7 (a b c d e f g:EV):fS:=aH a (aH b (aH c (aH d (aH e (aH f (aH g aN))))))
noncomputable abbrev v8 (a b c d e f g h:EV):fS:=aH a (aH b (aH c (aH d (aH e (aH f (aH g (aH h aN)))))))
noncomputable def dQ (i:Nat):Stmt:=PySem.Challenge.pw_roadsall_k24_losses_and_doublings.main.body.getD i (.Pass ⟨0,0,0,0⟩)
noncomputable def Gv (x:Str):Option P:=if x=("HIGHEST_LETTER":Str) then some (.int 999) else if x=("NOBODY":Str) then some (.int (-1)) else none
noncomputable def ml:Df:=⟨"_law_cell_at","_law_cell_at","",(dQ 35),["_law_script","_law_k"],["_law_script","_law_k"],[],[],["flaw_ends","Board.family_of","Board.hands_beside","takeable","targets_of","posted","sendings","step_ends","hand_ends","ends_on","Board.__init__","do_on"]⟩
noncomputable def tt:Df:=⟨"_law_mix","_law_mix","",(dQ 36),["_law_cell","_law_k","_law_turn","_law_number"],["_law_cell","_law_k"],[],[],["flaw_ends","Board.family_of","Board.hands_beside","takeable","targets_of","posted","sendings","step_ends","hand_ends","ends_on","Board.__init__","do_on"]⟩
noncomputable def oM:Df:=⟨"_law_roads","_law_roads","",(dQ 41),["_law_script","_law_families_here","_law_room","_law_roads_here","_law_k","_law_one","_law_j","_law_other","_law_drawn","_law_kind"],["_law_script","_law_families_here","_law_room"],["_law_roads_here"],[],["flaw_ends","Board.family_of","Board.hands_beside","takeable","targets_of","posted","sendings","step_ends","hand_ends","ends_on","Board.__init__","do_on"]⟩
noncomputable def re:Df:=⟨"_law_name","_law_name","",(dQ 37),["_law_script","_law_k","_law_drawn"],["_law_script","_law_k"],[],[],["flaw_ends","Board.family_of","Board.hands_beside","takeable","targets_of","posted","sendings","step_ends","hand_ends","ends_on","Board.__init__","do_on"]⟩
noncomputable def oO:Df:=⟨"_law_cells","_law_cells","",(dQ 38),["_law_script","_law_family_here","_law_most","_law_cells_here","_law_k","_law_drawn","_law_low","_law_high"],["_law_script","_law_family_here","_law_most"],["_law_cells_here"],[],["flaw_ends","Board.family_of","Board.hands_beside","takeable","targets_of","posted","sendings","step_ends","hand_ends","ends_on","Board.__init__","do_on"]⟩
noncomputable def tq:Df:=⟨"_law_sum","_law_sum","",(dQ 39),["_law_drawn","_law_names","_law_name_here"],["_law_drawn","_law_names"],[],[],["flaw_ends","Board.family_of","Board.hands_beside","takeable","targets_of","posted","sendings","step_ends","hand_ends","ends_on","Board.__init__","do_on"]⟩
noncomputable def oK:Df:=⟨"_law_sends","_law_sends","",(dQ 42),["_law_drawn","_law_family_here","_law_names","_law_whos","_law_roads_here","_law_most","_law_goals","_law_sends_here","_law_k","_law_some","_law_tree","_law_mark"],["_law_drawn","_law_family_here","_law_names","_law_whos","_law_roads_here","_law_most"],["_law_sends_here"],[],["flaw_ends","Board.family_of","Board.hands_beside","takeable","targets_of","posted","sendings","step_ends","hand_ends","ends_on","Board.__init__","do_on"]⟩
noncomputable def kJ:Df:=⟨"_law_condition","_law_condition","",(dQ 40),["_law_drawn","_law_names","_law_word","_law_plain"],["_law_drawn","_law_names"],[],[],["flaw_ends","Board.family_of","Board.hands_beside","takeable","targets_of","posted","sendings","step_ends","hand_ends","ends_on","Board.__init__","do_on"]⟩
noncomputable def q_:Df:=⟨"_law_step","_law_step","",(dQ 43),["_law_drawn","_law_family_here","_law_rooms","_law_cells_here","_law_whos","_law_roads_here","_law_names","_law_senders","_law_take","_law_free","_law_more","_law_into","_law_who","_law_changes","_law_k","_law_name_here","_law_sends_here","_law_when"],["_law_drawn","_law_family_here","_law_rooms","_law_cells_here","_law_whos","_law_roads_here"],["_law_changes"],[],["flaw_ends","Board.family_of","Board.hands_beside","takeable","targets_of","posted","sendings","step_ends","hand_ends","ends_on","Board.__init__","do_on"]⟩
noncomputable def nX:Df:=⟨"_law_family","_law_family","",(dQ 44),["_law_script","_law_k","_law_name_here","_law_crew_here","_law_wide","_law_roads_here","_law_cells_here","_law_drawn","_law_rooms","_law_whos","_law_steps","_law_j","_law_first"],["_law_script","_law_k","_law_name_here","_law_crew_here","_law_wide","_law_roads_here"],["_law_steps"],[],["flaw_ends","Board.family_of","Board.hands_beside","takeable","targets_of","posted","sendings","step_ends","hand_ends","ends_on","Board.__init__","do_on"]⟩
noncomputable def rc:Df:=⟨"_law_plan","_law_plan","",(dQ 45),["_law_script","_law_most","_law_total","_law_wide","_law_many","_law_names","_law_roads_here","_law_families_here","_law_k","_law_name_here","_law_crew_here","_law_wishes","_law_drawn","_law_family_here"],["_law_script","_law_most"],["_law_families_here","_law_wishes"],[],["flaw_ends","Board.family_of","Board.hands_beside","takeable","targets_of","posted","sendings","step_ends","hand_ends","ends_on","Board.__init__","do_on"]⟩
noncomputable def lz:Df:=⟨"_law_families","_law_families","",(dQ 46),["_law_plan_here","_law_found","_law_family_here"],["_law_plan_here"],[],[],["flaw_ends","Board.family_of","Board.hands_beside","takeable","targets_of","posted","sendings","step_ends","hand_ends","ends_on","Board.__init__","do_on"]⟩
noncomputable def rf:Df:=⟨"_law_crew","_law_crew","",(dQ 47),["_law_plan_here","_law_name_here"],["_law_plan_here","_law_name_here"],[],[],["flaw_ends","Board.family_of","Board.hands_beside","takeable","targets_of","posted","sendings","step_ends","hand_ends","ends_on","Board.__init__","do_on"]⟩
noncomputable def oN:Df:=⟨"_law_pairs","_law_pairs","",(dQ 48),["_law_plan_here","_law_found","_law_road","_law_one","_law_other"],["_law_plan_here"],["_law_found"],[],["flaw_ends","Board.family_of","Board.hands_beside","takeable","targets_of","posted","sendings","step_ends","hand_ends","ends_on","Board.__init__","do_on"]⟩
noncomputable def ly:Df:=⟨"_law_standing","_law_standing","",(dQ 49),["_law_script","_law_plan_here","_law_hands","_law_families_here","_law_hand","_law_family_here","_law_drawn","_law_cells_here","_law_k","_law_cell","_law_whos","_law_roads_here","_law_place","_law_pair","_law_letters","_law_number"],["_law_script","_law_plan_here"],["_law_cells_here","_law_hands","_law_letters","_law_roads_here","_law_whos"],[],["flaw_ends","Board.family_of","Board.hands_beside","takeable","targets_of","posted","sendings","step_ends","hand_ends","ends_on","Board.__init__","do_on"]⟩
noncomputable def mn:Df:=⟨"families_of","families_of","",(dQ 11),["plan","homes","place","family"],["plan"],["homes"],[],["flaw_ends","Board.family_of","Board.hands_beside","takeable","targets_of","posted","sendings","step_ends","hand_ends","ends_on","Board.__init__","do_on"]⟩
noncomputable def q0:Df:=⟨"pairs_of","pairs_of","",(dQ 12),["plan","names","pairs","road","one","name","others"],["plan"],["pairs"],[],["flaw_ends","Board.family_of","Board.hands_beside","takeable","targets_of","posted","sendings","step_ends","hand_ends","ends_on","Board.__init__","do_on"]⟩
noncomputable def xI:Df:=⟨"begin","begin","",(dQ 13),["plan","hands","place","cells","whos"],["plan"],["hands"],[],["flaw_ends","Board.family_of","Board.hands_beside","takeable","targets_of","posted","sendings","step_ends","hand_ends","ends_on","Board.__init__","do_on"]⟩
noncomputable def rh:Df:=⟨"has_flaw","has_flaw","",(dQ 30),["road","word","letters"],["road","word","letters"],[],[],["flaw_ends","Board.family_of","Board.hands_beside","takeable","targets_of","posted","sendings","step_ends","hand_ends","ends_on","Board.__init__","do_on"]⟩
noncomputable def lx:Df:=⟨"unlike_spots","unlike_spots","",(dQ 22),["kind","letters","spots"],["kind","letters"],[],[],["flaw_ends","Board.family_of","Board.hands_beside","takeable","targets_of","posted","sendings","step_ends","hand_ends","ends_on","Board.__init__","do_on"]⟩
noncomputable def qZ:Df:=⟨"replaced","replaced","",(dQ 33),["row","place","thing"],["row","place","thing"],[],[],["flaw_ends","Board.family_of","Board.hands_beside","takeable","targets_of","posted","sendings","step_ends","hand_ends","ends_on","Board.__init__","do_on"]⟩
noncomputable def tm:Df:=⟨"without","without","",(dQ 32),["row","place"],["row","place"],[],[],["flaw_ends","Board.family_of","Board.hands_beside","takeable","targets_of","posted","sendings","step_ends","hand_ends","ends_on","Board.__init__","do_on"]⟩
noncomputable def uU:Df:=⟨"flawed","flawed","",(dQ 31),["word","letters","spot"],["word","letters","spot"],[],[],["flaw_ends","Board.family_of","Board.hands_beside","takeable","targets_of","posted","sendings","step_ends","hand_ends","ends_on","Board.__init__","do_on"]⟩
noncomputable def oQ:Df:=⟨"flaw_ends","flaw_ends","",(dQ 29),["board","standing","word","ends","place","pair","road","one","other","letters","spot","roads"],["board","standing","word"],["board","ends"],[],["flaw_ends","Board.family_of","Board.hands_beside","takeable","targets_of","posted","sendings","step_ends","hand_ends","ends_on","Board.__init__","do_on"]⟩
noncomputable def jK:Df:=⟨"Board.family_of","family_of","Board",(L2.cv (dQ 10) 1),["self","hand"],["self","hand"],["self"],[],["flaw_ends","Board.family_of","Board.hands_beside","takeable","targets_of","posted","sendings","step_ends","hand_ends","ends_on","Board.__init__","do_on"]⟩
noncomputable def oI:Df:=⟨"values_of","values_of","",(dQ 20),["family","cells"],["family","cells"],[],[],["flaw_ends","Board.family_of","Board.hands_beside","takeable","targets_of","posted","sendings","step_ends","hand_ends","ends_on","Board.__init__","do_on"]⟩
noncomputable def ri:Df:=⟨"compared","compared","",(dQ 6),["word","one","other"],["word","one","other"],[],[],["flaw_ends","Board.family_of","Board.hands_beside","takeable","targets_of","posted","sendings","step_ends","hand_ends","ends_on","Board.__init__","do_on"]⟩
noncomputable def qW:Df:=⟨"value_of","value_of","",(dQ 4),["tree","values","kind","one","other"],["tree","values"],[],[],["flaw_ends","Board.family_of","Board.hands_beside","takeable","targets_of","posted","sendings","step_ends","hand_ends","ends_on","Board.__init__","do_on"]⟩
noncomputable def xF:Df:=⟨"holds","holds","",(dQ 5),["condition","values","kind"],["condition","values"],[],[],["flaw_ends","Board.family_of","Board.hands_beside","takeable","targets_of","posted","sendings","step_ends","hand_ends","ends_on","Board.__init__","do_on"]⟩
noncomputable def iN:Df:=⟨"Board.hands_beside","hands_beside","Board",(L2.cv (dQ 10) 2),["self","hand","name"],["self","hand","name"],["self"],[],["flaw_ends","Board.family_of","Board.hands_beside","takeable","targets_of","posted","sendings","step_ends","hand_ends","ends_on","Board.__init__","do_on"]⟩
noncomputable def qX:Df:=⟨"takeable","takeable","",(dQ 21),["board","roads","hand","take","found","sender","place","kind","letters","spots"],["board","roads","hand","take"],["board","found"],[],["flaw_ends","Board.family_of","Board.hands_beside","takeable","targets_of","posted","sendings","step_ends","hand_ends","ends_on","Board.__init__","do_on"]⟩
noncomputable def lA:Df:=⟨"cells_behind","cells_behind","",(dQ 24),["family","cells","step","values","given","name","amount","numbers","place","cell","number"],["family","cells","step","values"],["given","numbers"],[],["flaw_ends","Board.family_of","Board.hands_beside","takeable","targets_of","posted","sendings","step_ends","hand_ends","ends_on","Board.__init__","do_on"]⟩
noncomputable def mj:Df:=⟨"whos_behind","whos_behind","",(dQ 25),["family","whos","take","letter"],["family","whos","take","letter"],[],[],["flaw_ends","Board.family_of","Board.hands_beside","takeable","targets_of","posted","sendings","step_ends","hand_ends","ends_on","Board.__init__","do_on"]⟩
noncomputable def nW:Df:=⟨"targets_of","targets_of","",(dQ 27),["board","hand","way","name","whos","others"],["board","hand","way","name","whos"],["board"],[],["flaw_ends","Board.family_of","Board.hands_beside","takeable","targets_of","posted","sendings","step_ends","hand_ends","ends_on","Board.__init__","do_on"]⟩
noncomputable def uT:Df:=⟨"posted","posted","",(dQ 28),["board","roads","hand","targets","letter","target","place","road","letters"],["board","roads","hand","targets","letter"],["board"],[],["flaw_ends","Board.family_of","Board.hands_beside","takeable","targets_of","posted","sendings","step_ends","hand_ends","ends_on","Board.__init__","do_on"]⟩
noncomputable def qY:Df:=⟨"sendings","sendings","",(dQ 26),["board","hand","sends","values","roads","whos","ways","mark","amount","way","name","letter","further","chosen","sent","added","targets","roads_behind"],["board","hand","sends","values","roads","whos"],["board","further"],[],["flaw_ends","Board.family_of","Board.hands_beside","takeable","targets_of","posted","sendings","step_ends","hand_ends","ends_on","Board.__init__","do_on"]⟩
noncomputable def oJ:Df:=⟨"step_ends","step_ends","",(dQ 23),["board","standing","hand","step","letter","family","room","cells","whos","roads","values","place","hands","ends","chosen","roads_behind"],["board","standing","hand","step","letter"],["board","ends","values"],["values","values_of"],["flaw_ends","Board.family_of","Board.hands_beside","takeable","targets_of","posted","sendings","step_ends","hand_ends","ends_on","Board.__init__","do_on"]⟩
noncomputable def oP:Df:=⟨"hand_ends","hand_ends","",(dQ 19),["board","standing","hand","family","room","cells","whos","values","ends","step","letter"],["board","standing","hand"],["board","ends"],[],["flaw_ends","Board.family_of","Board.hands_beside","takeable","targets_of","posted","sendings","step_ends","hand_ends","ends_on","Board.__init__","do_on"]⟩
noncomputable def tu:Df:=⟨"ends_on","ends_on","",(dQ 18),["board","standing","ends","hand"],["board","standing"],["board","ends"],[],["flaw_ends","Board.family_of","Board.hands_beside","takeable","targets_of","posted","sendings","step_ends","hand_ends","ends_on","Board.__init__","do_on"]⟩
noncomputable def nY:Df:=⟨"Board.__init__","__init__","Board",(L2.cv (dQ 10) 0),["self","plan","place","pair","hand"],["self","plan"],["self"],["families_of","pairs_of","places","self"],["flaw_ends","Board.family_of","Board.hands_beside","takeable","targets_of","posted","sendings","step_ends","hand_ends","ends_on","Board.__init__","do_on"]⟩
noncomputable def oR:Df:=⟨"ends_from","ends_from","",(dQ 17),["plan","standing"],["plan","standing"],[],[],["flaw_ends","Board.family_of","Board.hands_beside","takeable","targets_of","posted","sendings","step_ends","hand_ends","ends_on","Board.__init__","do_on"]⟩
noncomputable def ka:Df:=⟨"_law_road_deeds","_law_road_deeds","",(dQ 50),["_law_plan_here","_law_standing_here","_law_word","_law_found","_law_place","_law_pair","_law_letters","_law_at","_law_letter","_law_left","_law_may","_law_end"],["_law_plan_here","_law_standing_here","_law_word"],["_law_found"],[],["flaw_ends","Board.family_of","Board.hands_beside","takeable","targets_of","posted","sendings","step_ends","hand_ends","ends_on","Board.__init__","do_on"]⟩
noncomputable def xH:Df:=⟨"deeds","deeds","",(dQ 14),["plan","standing"],["plan","standing"],[],[],["flaw_ends","Board.family_of","Board.hands_beside","takeable","targets_of","posted","sendings","step_ends","hand_ends","ends_on","Board.__init__","do_on"]⟩
noncomputable def xG:Df:=⟨"do_on","do_on","",(dQ 16),["board","standing","deed","known","end"],["board","standing","deed"],["board"],[],["flaw_ends","Board.family_of","Board.hands_beside","takeable","targets_of","posted","sendings","step_ends","hand_ends","ends_on","Board.__init__","do_on"]⟩
noncomputable def Es:Df:=⟨"do","do","",(dQ 15),["plan","standing","deed"],["plan","standing","deed"],[],[],["flaw_ends","Board.family_of","Board.hands_beside","takeable","targets_of","posted","sendings","step_ends","hand_ends","ends_on","Board.__init__","do_on"]⟩
noncomputable def rg:Df:=⟨"law","law","",(dQ 51),["_law_script","_law_plan_here","_law_handed","_law_standing_here","_law_due","_law_found","_law_steps","_law_deed","_law_end"],["_law_script"],[],[],["flaw_ends","Board.family_of","Board.hands_beside","takeable","targets_of","posted","sendings","step_ends","hand_ends","ends_on","Board.__init__","do_on"]⟩
noncomputable def Att:At:=[("Board",["families","homes","members","pairs","places"])]
noncomputable def Tb:List Df:=[ml,tt,oM,re,oO,tq,oK,kJ,q_,nX,rc,lz,rf,oN,ly,mn,q0,xI,rh,lx,qZ,tm,uU,oQ,jK,oI,ri,qW,xF,iN,qX,lA,mj,nW,uT,qY,oJ,oP,tu,nY,oR,ka,xH,xG,Es,rg]
noncomputable def Ph (n:Nat):Str->GF:=HF Gv Att Tb n
noncomputable def f_ (x h:Str->GF):ES:=(ac (dY (bV (ab Ar (vv 1) (dB (aa 0)))) (aK (eV (ab al (vv 0) (vv 1)))) ei)
  (aK (eV (vi 0))))
theorem iY (n:Nat):Ph (n+2) "_law_cell_at"=cJ 2 2 (f_ (Ph (n+1)) (Ph n)):=by kernel_rfl
noncomputable def gM (x h:Str->GF):ES:=(ak 0 (eV (ab aC (vv 0) (vi 2147483648))))
noncomputable def jy (x h:Str->GF):ES:=(ac (dY (bV (ab Ht (vv 0) (ab BM (vi 10) (vi 12)))) (ac (ak 0 (eV (ab rj (ab aC (vv 0) (ab BM (vi 10) (vi 12))) (vi 1))))
  (ac (b7 (hJ (ab aV (vv 1) (vi 61))) (ag 2) (gM x h))
  (aK (eV (ab aV (vv 0) (vi 2147483648)))))) ei)
  (ac (ak 3 (eV (ab aV (ab dh (ab aq (ab aq (ab aV (vv 0) (vi 1000003)) (ab dh (ab dh (vv 1) (vv 1)) (vi 7919))) (vv 1)) (vi 48271)) (vi 2147483629))))
  (ac (ak 3 (eV (ab aV (ab dh (vv 3) (vv 3)) (vi 2147483587))))
  (aK (eV (ab aC (ab aV (ab dh (vv 3) (ab aq (vv 3) (vi 2))) (vi 2147483579)) (vi 7)))))))
theorem lT (n:Nat):Ph (n+2) "_law_mix"=cJ 2 4 (jy (Ph (n+1)) (Ph n)):=by kernel_rfl
noncomputable def cX (h x:Str->GF):ES:=(ac (ak 8 (eV (af (pureOf (h "_law_mix")) (v2 (af (pureOf (h "_law_cell_at")) (v2 (vv 0) (vi 4))) (ab aq (ab aq (vi 30) (ab dh (vi 4) (vv 4))) (vv 6))))))
  (dY (fP (bV (ab E7 (ab aV (vv 8) (vi 4)) (vi 0))) (bV (ab Ar (dB (aa 3)) (vi 8)))) (ac (ak 9 (eV (ab al (aS (v2 (vt "row") (vt "heap"))) (ab aV (ab aC (vv 8) (vi 4)) (vi 2)))))
  (bL (a_ (aa 3) (eV (az (v6 (vv 5) (vv 7) (vv 9) (ab aq (vi 1) (ab aV (ab aC (vv 8) (vi 8)) (vv 2))) (aA dC (eV (ab aV (ab aC (vv 8) (vi 24)) (vi 3))) (eV (vi 1))) (aA dC (eV (ab aV (ab aC (vv 8) (vi 72)) (vi 3))) (eV (vi 1))))))))) ei))
noncomputable def fC (x h:Str->GF):ES:=(b7 (gO (vv 1)) (aI [ag 6,ag 7]) (cX x h))
noncomputable def jT (x h:Str->GF):ES:=(ac (ak 3 (cu aN))
  (ac (b7 (gO (vv 1)) (aI [ag 4,ag 5]) (fC x h))
  (aK (aa 3))))
theorem oC (n:Nat):Ph (n+2) "_law_roads"=cJ 3 10 (jT (Ph (n+1)) (Ph n)):=by kernel_rfl
noncomputable def kO (h x:Str->GF):ES:=(ac (ak 2 (eV (af (pureOf (h "_law_mix")) (v2 (af (pureOf (h "_law_cell_at")) (v2 (vv 0) (vi 1))) (vv 1)))))
  (aK (eV (ab aq (ab dh (ab al (vt "abcdefghijklmnop") (vv 1)) (ab aq (vi 1) (ab aV (vv 2) (vi 4)))) (ab al (vt "xyz") (ab aV (ab aC (vv 2) (vi 4)) (vi 3)))))))
theorem qN (n:Nat):Ph (n+2) "_law_name"=cJ 2 3 (kO (Ph (n+1)) (Ph n)):=by kernel_rfl
noncomputable def fD (h x:Str->GF):ES:=(ac (ak 5 (eV (af (pureOf (h "_law_mix")) (v2 (af (pureOf (h "_law_cell_at")) (v2 (vv 0) (ab aq (vi 2) (vv 1)))) (ab aq (vi 2) (vv 4))))))
  (ac (ak 6 (eV (ab al (aS (v4 (vi 0) (vi 0) (CU uV (vi 1)) (vi 5))) (ab aV (vv 5) (vi 4)))))
  (ac (ak 7 (eV (ab aq (vv 6) (ab al (aS (v4 (vi 1) (vi 2) (vi 0) (vi 1))) (ab aV (ab aC (vv 5) (vi 4)) (vi 4))))))
  (bL (a_ (aa 3) (eV (az (v4 (af (pureOf (h "_law_name")) (v2 (vv 0) (ab aq (vi 2) (vv 4)))) (vv 6) (vv 7) (ab aq (vv 6) (ab aV (ab aC (vv 5) (vi 16)) (ab aq (ab rj (vv 7) (vv 6)) (vi 1))))))))))))
noncomputable def jV (h x:Str->GF):ES:=(ac (ak 3 (cu aN))
  (ac (b7 (hJ (ab aV (af (pureOf (h "_law_mix")) (v2 (af (pureOf (h "_law_cell_at")) (v2 (vv 0) (ab aq (vi 2) (vv 1)))) (vi 1))) (ab aq (vv 2) (vi 1)))) (ag 4) (fD h x))
  (aK (aa 3))))
theorem oE (n:Nat):Ph (n+2) "_law_cells"=cJ 3 8 (jV (Ph (n+1)) (Ph n)):=by kernel_rfl
noncomputable def dG (x h:Str->GF):ES:=(ac (dY (xO (bV (aA dC (aa 1) (eV (aS aN)))) (bV (aA dC (eV (ab aV (vv 0) (vi 5))) (eV (vi 0))))) (aK (eV (az (v2 (vt "number") (ab aV (ab aC (vv 0) (vi 5)) (vi 3)))))) ei)
  (ac (ak 2 (eV (az (v2 (vt "name") (ab al (vv 1) (ab aV (ab aC (vv 0) (vi 5)) (dB (aa 1))))))))
  (ac (dY (bV (aA dC (eV (ab aV (vv 0) (vi 5))) (eV (vi 1)))) (aK (aa 2)) ei)
  (ac (dY (bV (aA dC (eV (ab aV (vv 0) (vi 5))) (eV (vi 2)))) (aK (eV (az (v3 (vt "plus") (vv 2) (az (v2 (vt "number") (ab aV (ab aC (vv 0) (vi 20)) (vi 3)))))))) ei)
  (ac (dY (bV (aA dC (eV (ab aV (vv 0) (vi 5))) (eV (vi 3)))) (aK (eV (az (v3 (vt "minus") (az (v3 (vt "times") (vv 2) (az (v2 (vt "number") (ab aV (ab aC (vv 0) (vi 20)) (vi 3)))))) (az (v2 (vt "number") (ab aV (ab aC (vv 0) (vi 60)) (vi 2)))))))) ei)
  (aK (eV (az (v3 (vt "minus") (az (v2 (vt "number") (vi 1))) (vv 2))))))))))
theorem eQ (n:Nat):Ph (n+2) "_law_sum"=cJ 2 3 (dG (Ph (n+1)) (Ph n)):=by kernel_rfl
noncomputable def bJ (h x:Str->GF):ES:=(ac (ak 9 (eV (ab aC (vv 0) (ab al (aS (v3 (vi 4) (vi 1000) (vi 100000))) (vv 8)))))
  (ac (ak 10 (eV (af (pureOf (h "_law_sum")) (v2 (ab aV (ab aC (vv 9) (vi 12)) (vi 300)) (vv 2)))))
  (ac (ak 11 (eV (ab al (aS (v2 (vt "ma") (vt "mb"))) (ab aV (vv 9) (vi 2)))))
  (dY (fP (bV (aA oz (aa 3) (eV (aS aN)))) (bV (aA dC (eV (ab aV (ab aC (vv 9) (vi 2)) (vi 3))) (eV (vi 1))))) (bL (a_ (aa 7) (eV (az (v4 (vv 11) (vv 10) (vt "who") (ab al (vv 3) (ab aV (ab aC (vv 9) (vi 50)) (dB (aa 3))))))))) (dY (bV (aA oz (aa 6) (eV (aS aN)))) (bL (a_ (aa 7) (eV (az (v4 (vv 11) (vv 10) (ab al (aS (v2 (vt "all") (vt "any"))) (ab dh (ab aV (ab aC (vv 9) (vi 6)) (vi 2)) (af bB (v1 (ab Ar (vv 8) (vi 2)))))) (ab al (vv 6) (ab aV (ab aC (vv 9) (vi 3)) (dB (aa 6))))))))) ei)))))
noncomputable def jS (x h:Str->GF):ES:=(ac (ak 6 (eV (aX (hG (vv 4)) [] 1 (ag 12) (bV (aA dC (eV (ab al (vv 12) (vi 0))) (aa 1))) (ab al (vv 12) (vi 1)))))
  (ac (ak 7 (cu aN))
  (ac (b7 (hJ (ab aV (vv 0) (ab aq (vv 5) (vi 1)))) (ag 8) (bJ x h))
  (aK (aa 7)))))
theorem oB (n:Nat):Ph (n+2) "_law_sends"=cJ 6 12 (jS (Ph (n+1)) (Ph n)):=by kernel_rfl
noncomputable def b0 (h x:Str->GF):ES:=(ac (dY (xO (bV (aA dC (aa 1) (eV (aS aN)))) (bV (ab Ar (ab aV (vv 0) (vi 5)) (vi 2)))) (aK (eV (az (v1 (vt "true"))))) ei)
  (ac (ak 2 (eV (ab al (aS (v6 (vt "=") (vt "!=") (vt "<") (vt "<=") (vt ">") (vt ">="))) (ab aV (ab aC (vv 0) (vi 5)) (vi 6)))))
  (ac (ak 3 (eV (az (v4 (vt "is") (vv 2) (az (v2 (vt "name") (ab al (vv 1) (ab aV (ab aC (vv 0) (vi 30)) (dB (aa 1)))))) (af (pureOf (h "_law_sum")) (v2 (ab aC (vv 0) (vi 90)) (vv 1)))))))
  (ac (dY (bV (aA dC (eV (ab aV (vv 0) (vi 5))) (eV (vi 2)))) (aK (eV (az (v2 (vt "not") (vv 3))))) ei)
  (ac (dY (bV (aA dC (eV (ab aV (vv 0) (vi 5))) (eV (vi 3)))) (aK (eV (az (v3 (vt "or") (vv 3) (az (v3 (vt "and") (az (v1 (vt "true"))) (az (v4 (vt "is") (vt "=") (az (v2 (vt "number") (vi 1))) (az (v2 (vt "name") (ab al (vv 1) (vi 0)))))))))))) ei)
  (aK (aa 3)))))))
theorem cA (n:Nat):Ph (n+2) "_law_condition"=cJ 2 4 (b0 (Ph (n+1)) (Ph n)):=by kernel_rfl
noncomputable def aJ (x h:Str->GF):ES:=(dY (fP (bV (aA oz (aa 7) (eV (aS aN)))) (bV (aA dC (eV (ab aV (ab al (vv 0) (vi 0)) (vi 3))) (eV (vi 1))))) (ac (ak 11 (eV (vt "")))
  (ac (dY (fP (bV (aA oz (aa 6) (eV (aS aN)))) (bV (aA dC (eV (ab aV (ab aC (ab al (vv 0) (vi 0)) (vi 3)) (vi 2))) (eV (vi 1))))) (ac (ak 11 (eV (ab al (vv 6) (CU uV (vi 1)))))
  (ak 9 (eV (gb (vv 6) dw (de (CU uV (vi 1))))))) ei)
  (ac (ak 12 (eV (vt "")))
  (ac (dY (fP (bV (aA oz (aa 4) (eV (aS aN)))) (bV (aA dC (eV (ab aV (ab aC (ab al (vv 0) (vi 0)) (vi 6)) (vi 2))) (eV (vi 1))))) (ak 12 (eV (ab al (vv 4) (ab aV (ab aC (ab al (vv 0) (vi 0)) (vi 200)) (dB (aa 4)))))) ei)
  (ac (ak 8 (eV (az (v4 (ab al (aS (v2 (vt "ma") (vt "mb"))) (ab aV (ab aC (ab al (vv 0) (vi 0)) (vi 12)) (vi 2))) (ab al (vv 7) (ab aV (ab aC (ab al (vv 0) (vi 0)) (vi 24)) (dB (aa 7)))) (vv 11) (vv 12)))))
  (ak 10 (eV (aS (v1 (vt "it")))))))))) ei)
noncomputable def eE (h x:Str->GF):ES:=(dY (bV (aA dC (eV (ab aV (ab aC (ab al (vv 0) (vi 1)) (ab al (aS (v3 (vi 1) (vi 1000) (vi 1000000))) (vv 14))) (vi 2))) (eV (vi 1)))) (bL (a_ (aa 13) (eV (az (v2 (vv 15) (af (pureOf (h "_law_sum")) (v2 (ab aV (ab aC (ab al (vv 0) (vi 1)) (ab al (aS (v3 (vi 2) (vi 2000) (vi 2000000))) (vv 14))) (vi 300)) (ab aq (vv 6) (vv 10))))))))) ei)
noncomputable def kN (h x:Str->GF):ES:=(ac (ak 6 (eV (aX (hG (vv 3)) [] 1 (ag 18) fm (ab al (vv 18) (vi 0)))))
  (ac (ak 7 (eV (aX (hG (vv 5)) [] 1 (ag 18) (bV (aA dC (eV (ab al (vv 18) (vi 1))) (aa 1))) (ab al (vv 18) (vi 0)))))
  (ac (ak 8 (eV (vC (.non))))
  (ac (ak 9 (eV (af hU (v1 (vv 6)))))
  (ac (ak 10 (eV (aS aN)))
  (ac (aJ h x)
  (ac (ak 13 (cu aN))
  (ac (b7 (gO (vv 9)) (aI [ag 14,ag 15]) (eE h x))
  (ac (ak 16 (eV (af (pureOf (h "_law_sends")) (v6 (ab al (vv 0) (vi 2)) (vv 1) (ab aq (vv 6) (vv 10)) (vv 4) (vv 5) (ab aq (vi 2) (af bB (v1 (ab E7 (dB (aa 2)) (vi 3)))))))))
  (ac (ak 17 (eV (af (pureOf (h "_law_condition")) (v2 (ab aV (ab al (vv 0) (vi 3)) (vi 27000)) (vv 6)))))
  (aK (eV (az (v6 (ab al (vv 2) (ab aV (ab aC (ab al (vv 0) (vi 3)) (vi 27000)) (dB (aa 2)))) (vv 17) (vv 8) (vv 13) (vv 16) (ab al (vv 2) (ab aV (ab aC (ab al (vv 0) (vi 3)) (vi 216000)) (dB (aa 2))))))))))))))))))
theorem qL (n:Nat):Ph (n+2) "_law_step"=cJ 6 18 (kN (Ph (n+1)) (Ph n)):=by kernel_rfl
noncomputable def fh (h x:Str->GF):ES:=(ac (ak 12 (eV (ab dh (vi 4) (ab aq (ab dh (vi 8) (vv 1)) (vv 11)))))
  (ac (ak 7 (eV (aX (hJ (vi 4)) [] 1 (ag 13) fm (af (pureOf (h "_law_mix")) (v2 (af (pureOf (h "_law_cell_at")) (v2 (vv 0) (ab aq (vi 5) (ab aV (ab aq (vv 12) (vv 13)) (vi 24))))) (ab aq (ab aq (vi 11) (vv 12)) (vv 13)))))))
  (bL (a_ (aa 10) (eV (ab aq (az (v1 (af (pureOf (h "_law_name")) (v2 (vv 0) (ab aq (vi 8) (vv 11)))))) (af (pureOf (h "_law_step")) (v6 (vv 7) (vv 2) (vv 8) (vv 6) (vv 9) (vv 5)))))))))
noncomputable def jz (h x:Str->GF):ES:=(ac (ak 6 (eV (af (pureOf (h "_law_cells")) (v3 (vv 0) (vv 1) (ab aq (vi 2) (af bB (v1 (vv 4))))))))
  (ac (ak 7 (eV (af (pureOf (h "_law_mix")) (v2 (af (pureOf (h "_law_cell_at")) (v2 (vv 0) (ab aq (vi 2) (vv 1)))) (vi 9)))))
  (ac (ak 8 (eV (aX (hJ (ab aq (vi 1) (ab aV (vv 7) (ab al (aS (v2 (vi 3) (vi 8))) (af bB (v1 (vv 4))))))) [11] 0 (ag 11) fm (af (pureOf (h "_law_name")) (v2 (vv 0) (ab aq (vi 4) (vv 11)))))))
  (ac (ak 7 (eV (af (pureOf (h "_law_mix")) (v2 (af (pureOf (h "_law_cell_at")) (v2 (vv 0) (ab aq (vi 2) (vv 1)))) (vi 8)))))
  (ac (ak 9 (eV (aX (hJ (ab aV (vv 7) (ab aq (vi 2) (af bB (v1 (vv 4)))))) [11] 0 (ag 11) fm (af (pureOf (h "_law_name")) (v2 (vv 0) (ab aq (vi 10) (vv 11)))))))
  (ac (ak 10 (cu aN))
  (ac (b7 (hJ (ab aq (vi 1) (ab aV (af (pureOf (h "_law_mix")) (v2 (af (pureOf (h "_law_cell_at")) (v2 (vv 0) (ab aq (vi 2) (vv 1)))) (vi 7))) (ab al (aS (v2 (vi 3) (vi 8))) (af bB (v1 (vv 4))))))) (ag 11) (fh h x))
  (aK (eV (az (v6 (vv 2) (vv 3) (vv 8) (vv 6) (vv 9) (vv 10))))))))))))
theorem nQ (n:Nat):Ph (n+2) "_law_family"=cJ 6 13 (jz (Ph (n+1)) (Ph n)):=by kernel_rfl
noncomputable def f8 (h x:Str->GF):ES:=(ac (ak 10 (eV (ab aq (vi 1) (ab aV (ab aC (vv 2) (ab al (aS (v4 (vi 4) (vi 12) (vi 16) (vi 16))) (vv 8))) (ab al (aS (v4 (ab aq (vv 1) (af bB (v1 (vv 3)))) (vi 2) (vi 1) (vi 1))) (ab rj (vv 4) (vi 1)))))))
  (bL (a_ (aa 7) (eV (af (pureOf (h "_law_family")) (v6 (vv 0) (vv 8) (vv 9) (vv 10) (vv 3) (vv 6)))))))
noncomputable def f6 (h x:Str->GF):ES:=(ac (ak 12 (eV (af (pureOf (h "_law_mix")) (v2 (af (pureOf (h "_law_cell_at")) (v2 (vv 0) (vi 4))) (ab aq (vi 20) (vv 8))))))
  (ac (ak 13 (tX (aa 7) (ab aV (vv 12) (vv 4))))
  (bL (a_ (aa 11) (eV (az (v3 (ab al (aS (v2 (vt "weak") (vt "strong"))) (ab aV (ab aC (vv 12) (vi 4)) (vi 2))) (ab al (vv 13) (vi 0)) (ab al (ab al (ab al (vv 13) (vi 5)) (ab aV (ab aC (vv 12) (vi 8)) (dB (eV (ab al (vv 13) (vi 5)))))) (vi 0)))))))))
noncomputable def iP (h x:Str->GF):ES:=(ac (ak 2 (eV (af (pureOf (h "_law_cell_at")) (v2 (vv 0) (vi 0)))))
  (ac (ak 3 (eV (aA dC (eV (ab aV (ab aC (vv 2) (vi 64)) (vi 8))) (eV (vi 1)))))
  (ac (ak 4 (eV (ab aq (vi 1) (ab aV (vv 2) (ab al (aS (v2 (vi 2) (vi 4))) (af bB (v1 (vv 3))))))))
  (ac (ak 5 (eV (aX (hJ (vv 4)) [8] 0 (ag 8) fm (af (pureOf (h "_law_name")) (v2 (vv 0) (vv 8))))))
  (ac (ak 6 (eV (af (pureOf (h "_law_roads")) (v3 (vv 0) (vv 5) (ab aq (vi 2) (af bB (v1 (vv 3))))))))
  (ac (ak 7 (cu aN))
  (ac (b7 (gO (vv 5)) (aI [ag 8,ag 9]) (f8 h x))
  (ac (ak 11 (cu aN))
  (ac (b7 (hJ (ab aq (ab aV (ab aC (vv 2) (vi 48)) (vi 3)) (ab dh (vi 4) (af bB (v1 (vB (fP (bV (vv 3)) (bV (aA dC (eV (ab aV (vv 2) (vi 3))) (eV (vi 1))))))))))) (ag 8) (f6 h x))
  (aK (eV (az (v3 (vv 7) (vv 6) (vv 11))))))))))))))
theorem qM (n:Nat):Ph (n+2) "_law_plan"=cJ 2 14 (iP (Ph (n+1)) (Ph n)):=by kernel_rfl
noncomputable def d4 (x h:Str->GF):ES:=(ak 1 (eV (ab aq (vv 1) (ab dh (aS (v1 (vv 2))) (ab al (vv 2) (vi 1))))))
noncomputable def im (x h:Str->GF):ES:=(ac (ak 1 (eV (aS aN)))
  (ac (b7 (hG (ab al (vv 0) (vi 0))) (ag 2) (d4 x h))
  (aK (aa 1))))
theorem lw (n:Nat):Ph (n+2) "_law_families"=cJ 1 3 (im (Ph (n+1)) (Ph n)):=by kernel_rfl
noncomputable def kP (h x:Str->GF):ES:=(aK (eV (aX (gO (af (pureOf (h "_law_families")) (v1 (vv 0)))) [] 2 (aI [ag 2,ag 3]) (bV (aA dC (eV (ab al (vv 3) (vi 0))) (aa 1))) (vv 2))))
theorem qO (n:Nat):Ph (n+2) "_law_crew"=cJ 2 2 (kP (Ph (n+1)) (Ph n)):=by kernel_rfl
noncomputable def dN (x h:Str->GF):ES:=(dY (bV (aA oz (aa 3) (aa 4))) (bL (a_ (aa 1) (eV (az (v3 (vv 2) (vv 3) (vv 4)))))) ei)
noncomputable def il (h x:Str->GF):ES:=(b7 (hG (af (pureOf (h "_law_crew")) (v2 (vv 0) (ab al (vv 2) (vi 1))))) (ag 4) (dN h x))
noncomputable def ik (h x:Str->GF):ES:=(b7 (hG (af (pureOf (h "_law_crew")) (v2 (vv 0) (ab al (vv 2) (vi 0))))) (ag 3) (il h x))
noncomputable def jU (x h:Str->GF):ES:=(ac (ak 1 (cu aN))
  (ac (b7 (hG (ab al (vv 0) (vi 1))) (ag 2) (ik x h))
  (aK (aa 1))))
theorem oD (n:Nat):Ph (n+2) "_law_pairs"=cJ 1 5 (jU (Ph (n+1)) (Ph n)):=by kernel_rfl
noncomputable def cP (x h:Str->GF):ES:=(bL (a_ (aa 7) (eV (ab aq (ab al (vv 9) (vi 1)) (ab aV (ab aC (vv 6) (ab al (aS (v3 (vi 8) (vi 32) (vi 128))) (vv 8))) (ab aq (ab rj (ab al (vv 9) (vi 2)) (ab al (vv 9) (vi 1))) (vi 1)))))))
noncomputable def cO (x h:Str->GF):ES:=(bL (a_ (aa 10) (eV (ab rj (ab aV (ab aC (vv 6) (ab al (aS (v2 (vi 512) (vi 4096))) (vv 8))) (ab aq (dB (aa 3)) (vi 1))) (vi 1)))))
noncomputable def cN (h x:Str->GF):ES:=(ac (ak 6 (eV (af (pureOf (h "_law_mix")) (v2 (af (pureOf (h "_law_cell_at")) (v2 (vv 0) (ab aq (vi 29) (vv 4)))) (vi 31)))))
  (ac (ak 7 (cu aN))
  (ac (b7 (gO (ab al (vv 5) (vi 3))) (aI [ag 8,ag 9]) (cP h x))
  (ac (ak 10 (cu aN))
  (ac (b7 (hJ (dB (eV (ab al (vv 5) (vi 4))))) (ag 8) (cO h x))
  (bL (a_ (aa 2) (eV (az (v3 (ab aV (vv 6) (dB (eV (ab al (vv 5) (vi 2))))) (af bD (v1 (vv 7))) (af bD (v1 (vv 10)))))))))))))
noncomputable def cM (x h:Str->GF):ES:=(ac (ak 15 (eV (ab aq (ab rj (ab aV (ab aC (vv 6) (ab al (aS (v3 (vi 8) (vi 800) (vi 80000))) (vv 8))) (vi 4)) (vi 1)) (ab al (aS (v4 (vi 0) (vi 997) (vi 0) (CU uV (vi 998)))) (ab aV (ab aC (vv 6) (vi 8000000)) (vi 4))))))
  (bL (a_ (aa 14) (eV (az (v2 (ab al (aS (v2 (vt "ma") (vt "mb"))) (ab aV (ab aC (vv 6) (ab al (aS (v3 (vi 4) (vi 400) (vi 40000))) (vv 8))) (vi 2))) (vv 15)))))))
noncomputable def cL (h x:Str->GF):ES:=(ac (ak 6 (eV (af (pureOf (h "_law_mix")) (v2 (af (pureOf (h "_law_cell_at")) (v2 (vv 0) (ab aq (vi 34) (ab aV (vv 12) (vi 20))))) (ab aq (vi 33) (ab aC (vv 12) (vi 20)))))))
  (ac (ak 14 (cu aN))
  (ac (b7 (hJ (ab aV (vv 6) (ab aq (ab al (ab al (vv 13) (vi 0)) (vi 3)) (vi 1)))) (ag 8) (cM h x))
  (ac (dY (bV (aA dC (eV (ab al (ab al (vv 13) (vi 0)) (vi 2))) (eV (vt "heap")))) (ak 14 (eV (oX (aa 14)))) ei)
  (bL (a_ (aa 11) (eV (af bD (v1 (vv 14))))))))))
noncomputable def fB (h x:Str->GF):ES:=(ac (ak 2 (cu aN))
  (ac (ak 3 (eV (af (pureOf (h "_law_families")) (v1 (vv 1)))))
  (ac (b7 (gO (vv 3)) (aI [ag 4,ag 5]) (cN h x))
  (ac (ak 11 (cu aN))
  (ac (b7 (gO (af (pureOf (h "_law_pairs")) (v1 (vv 1)))) (aI [ag 12,ag 13]) (cL h x))
  (aK (eV (az (v2 (af bD (v1 (vv 2))) (af bD (v1 (vv 11))))))))))))
theorem lu (n:Nat):Ph (n+2) "_law_standing"=cJ 2 16 (fB (Ph (n+1)) (Ph n)):=by kernel_rfl
noncomputable def eN (x h:Str->GF):ES:=(bL (dI (aa 1) (ab dh (aS (v1 (vv 2))) (ab al (vv 3) (vi 1)))))
noncomputable def i3 (x h:Str->GF):ES:=(ac (ak 1 (cu aN))
  (ac (b7 (gO (ab al (vv 0) (vi 0))) (aI [ag 2,ag 3]) (eN x h))
  (aK (aa 1))))
theorem mf (n:Nat):Ph (n+2) "families_of"=cJ 1 4 (i3 (Ph (n+1)) (Ph n)):=by kernel_rfl
noncomputable def eD (x h:Str->GF):ES:=(dY (bV (aA dC (aa 5) (eV (ab al (vv 3) (vi 0))))) (ac (ak 6 (eV (aX (hJ (dB (aa 1))) [] 1 (ag 7) (fP (bV (aA oz (aa 7) (aa 4))) (bV (aA dC (eV (ab al (vv 1) (vv 7))) (eV (ab al (vv 3) (vi 1)))))) (vv 7))))
  (bL (dI (aa 2) (aX (hG (vv 6)) [] 1 (ag 7) fm (az (v3 (vv 3) (vv 4) (vv 7))))))) ei)
noncomputable def i0 (x h:Str->GF):ES:=(b7 (gO (vv 1)) (aI [ag 4,ag 5]) (eD x h))
noncomputable def kM (h x:Str->GF):ES:=(ac (ak 1 (eV (aX (hG (af (pureOf (h "families_of")) (v1 (vv 0)))) [] 1 (ag 7) fm (ab al (ab al (ab al (vv 0) (vi 0)) (vv 7)) (vi 0)))))
  (ac (ak 2 (cu aN))
  (ac (b7 (hG (ab al (vv 0) (vi 1))) (ag 3) (i0 h x))
  (aK (aa 2)))))
theorem qK (n:Nat):Ph (n+2) "pairs_of"=cJ 1 7 (kM (Ph (n+1)) (Ph n)):=by kernel_rfl
noncomputable def iT (x h:Str->GF):ES:=(ac (ak 3 (eV (ab al (ab al (ab al (vv 0) (vi 0)) (vv 2)) (vi 3))))
  (ac (ak 4 (eV (ab al (ab al (ab al (vv 0) (vi 0)) (vv 2)) (vi 4))))
  (bL (a_ (aa 1) (eV (az (v3 (vi 0) (af bD (v1 (aX (hG (vv 3)) [] 1 (ag 5) fm (ab al (vv 5) (vi 3))))) (ab dh (az (v1 (vi (-1)))) (dB (aa 4))))))))))
noncomputable def pH (h x:Str->GF):ES:=(ac (ak 1 (cu aN))
  (ac (b7 (hG (af (pureOf (h "families_of")) (v1 (vv 0)))) (ag 2) (iT h x))
  (aK (eV (az (v2 (af bD (v1 (vv 1))) (ab dh (az (v1 (az aN))) (dB (eV (af (pureOf (h "pairs_of")) (v1 (vv 0))))))))))))
theorem xy (n:Nat):Ph (n+2) "begin"=cJ 1 5 (pH (Ph (n+1)) (Ph n)):=by kernel_rfl
noncomputable def iR (x h:Str->GF):ES:=(ac (dY (bV (aA dC (aa 1) (eV (vt "lose")))) (aK (eV (ab al (vv 0) (vi 4)))) ei)
  (aK (eV (vB (fP (bV (ab al (vv 0) (vi 5))) (bV (ab Ar (dB (aa 2)) (ab al (vv 0) (vi 3)))))))))
theorem kI (n:Nat):Ph (n+2) "has_flaw"=cJ 3 3 (iR (Ph (n+1)) (Ph n)):=by kernel_rfl
noncomputable def cg (x h:Str->GF):ES:=(ac (ak 2 (eV (EQ (dB (aa 1)))))
  (ac (dY (bV (aA dC (aa 0) (eV (vt "row")))) (aK (aa 2)) ei)
  (aK (eV (aX (hG (vv 2)) [] 1 (ag 3) (bV (aA dC (eV (l8 (vv 1) (ab al (vv 1) (vv 3)))) (aa 3))) (vv 3))))))
theorem cT (n:Nat):Ph (n+2) "unlike_spots"=cJ 2 3 (cg (Ph (n+1)) (Ph n)):=by kernel_rfl
noncomputable def fg (x h:Str->GF):ES:=(aK (eV (ab aq (ab aq (gb (vv 0) dw (de (vv 1))) (az (v1 (vv 2)))) (gb (vv 0) (de (ab aq (vv 1) (vi 1))) dw))))
theorem gi (n:Nat):Ph (n+2) "replaced"=cJ 3 3 (fg (Ph (n+1)) (Ph n)):=by kernel_rfl
noncomputable def fO (x h:Str->GF):ES:=(aK (eV (ab aq (gb (vv 0) dw (de (vv 1))) (gb (vv 0) (de (ab aq (vv 1) (vi 1))) dw))))
theorem gX (n:Nat):Ph (n+2) "without"=cJ 2 2 (fO (Ph (n+1)) (Ph n)):=by kernel_rfl
noncomputable def kg (h x:Str->GF):ES:=(ac (dY (bV (aA dC (aa 0) (eV (vt "lose")))) (aK (eV (af (pureOf (h "without")) (v2 (vv 1) (vv 2))))) ei)
  (aK (eV (ab aq (gb (vv 1) dw (de (ab aq (vv 2) (vi 1)))) (gb (vv 1) (de (vv 2)) dw)))))
theorem nR (n:Nat):Ph (n+2) "flawed"=cJ 3 3 (kg (Ph (n+1)) (Ph n)):=by kernel_rfl
noncomputable def fF (h x:Str->GF):ES:=(ac (ak 11 (eV (af (pureOf (h "replaced")) (v3 (ab al (vv 1) (vi 1)) (vv 4) (af (pureOf (h "flawed")) (v3 (vv 2) (vv 9) (vv 10)))))))
  (bL (a_ (aa 3) (eV (az (v2 (az (v4 (vv 2) (vv 7) (vv 8) (vv 10))) (az (v2 (ab al (vv 1) (vi 0)) (vv 11)))))))))
noncomputable def dO (h x:Str->GF):ES:=(ac (sg (aI [ag 6,ag 7,ag 8]) (vv 5))
  (ac (ak 9 (eV (ab al (ab al (vv 1) (vi 1)) (vv 4))))
  (dY (bT (eV (af (pureOf (h "has_flaw")) (v3 (vv 6) (vv 2) (vv 9))))) (b7 (hG (af (pureOf (h "unlike_spots")) (v2 (ab al (vv 6) (vi 2)) (vv 9)))) (ag 10) (fF h x)) ei)))
noncomputable def hV (x h:Str->GF):ES:=(ac (ak 3 (cu aN))
  (ac (b7 (gO (vE (dF (aT Att) (aa 0) "pairs"))) (aI [ag 4,ag 5]) (dO x h))
  (aK (aa 3))))
theorem oF (n:Nat):Ph (n+2) "flaw_ends"=cJ 3 12 (hV (Ph (n+1)) (Ph n)):=by kernel_rfl
noncomputable def cQ (x h:Str->GF):ES:=(aK (tX (dF (aT Att) (aa 0) "families") (vE (tX (dF (aT Att) (aa 0) "homes") (vv 1)))))
theorem b9 (n:Nat):Ph (n+2) "Board.family_of"=cJ 2 2 (cQ (Ph (n+1)) (Ph n)):=by kernel_rfl
noncomputable def d8 (x h:Str->GF):ES:=(aK (qP (aX (hG (ab al (vv 0) (vi 3))) [] 1 (ag 2) fm (ab al (vv 2) (vi 0))) (vv 1)))
theorem fI (n:Nat):Ph (n+2) "values_of"=cJ 2 2 (d8 (Ph (n+1)) (Ph n)):=by kernel_rfl
noncomputable def bQ (x h:Str->GF):ES:=(ac (dY (bV (aA dC (aa 0) (eV (vt "=")))) (aK (eV (aA dC (aa 1) (aa 2)))) ei)
  (ac (dY (bV (aA dC (aa 0) (eV (vt "!=")))) (aK (eV (aA oz (aa 1) (aa 2)))) ei)
  (ac (dY (bV (aA dC (aa 0) (eV (vt "<")))) (aK (eV (ab Ar (vv 1) (vv 2)))) ei)
  (ac (dY (bV (aA dC (aa 0) (eV (vt "<=")))) (aK (eV (ab Ex (vv 1) (vv 2)))) ei)
  (ac (dY (bV (aA dC (aa 0) (eV (vt ">")))) (aK (eV (ab E7 (vv 1) (vv 2)))) ei)
  (aK (eV (ab Ht (vv 1) (vv 2)))))))))
theorem gj (n:Nat):Ph (n+2) "compared"=cJ 3 3 (bQ (Ph (n+1)) (Ph n)):=by kernel_rfl
noncomputable def bO (h x:Str->GF):ES:=(ac (ak 2 (eV (ab al (vv 0) (vi 0))))
  (ac (dY (bV (aA dC (aa 2) (eV (vt "number")))) (aK (eV (ab al (vv 0) (vi 1)))) ei)
  (ac (dY (bV (aA dC (aa 2) (eV (vt "name")))) (aK (eV (ab al (vv 1) (ab al (vv 0) (vi 1))))) ei)
  (ac (ak 3 (eV (af (pureOf (h "value_of")) (v2 (ab al (vv 0) (vi 1)) (vv 1)))))
  (ac (ak 4 (eV (af (pureOf (h "value_of")) (v2 (ab al (vv 0) (vi 2)) (vv 1)))))
  (ac (dY (bV (aA dC (aa 2) (eV (vt "plus")))) (aK (eV (ab aq (vv 3) (vv 4)))) ei)
  (ac (dY (bV (aA dC (aa 2) (eV (vt "minus")))) (aK (eV (ab rj (vv 3) (vv 4)))) ei)
  (aK (eV (ab dh (vv 3) (vv 4)))))))))))
theorem cz (n:Nat):Ph (n+2) "value_of"=cJ 2 5 (bO (Ph (n+1)) (Ph n)):=by kernel_rfl
noncomputable def dm (h x:Str->GF):ES:=(ac (ak 2 (eV (ab al (vv 0) (vi 0))))
  (ac (dY (bV (aA dC (aa 2) (eV (vt "true")))) (aK (eV (vC (.bl true)))) ei)
  (ac (dY (bV (aA dC (aa 2) (eV (vt "not")))) (aK (eV (vB (rM (bV (af (pureOf (h "holds")) (v2 (ab al (vv 0) (vi 1)) (vv 1)))))))) ei)
  (ac (dY (bV (aA dC (aa 2) (eV (vt "and")))) (aK (eV (vB (fP (bV (af (pureOf (h "holds")) (v2 (ab al (vv 0) (vi 1)) (vv 1)))) (bV (af (pureOf (h "holds")) (v2 (ab al (vv 0) (vi 2)) (vv 1)))))))) ei)
  (ac (dY (bV (aA dC (aa 2) (eV (vt "or")))) (aK (eV (vB (xO (bV (af (pureOf (h "holds")) (v2 (ab al (vv 0) (vi 1)) (vv 1)))) (bV (af (pureOf (h "holds")) (v2 (ab al (vv 0) (vi 2)) (vv 1)))))))) ei)
  (aK (eV (af (pureOf (h "compared")) (v3 (ab al (vv 0) (vi 1)) (af (pureOf (h "value_of")) (v2 (ab al (vv 0) (vi 2)) (vv 1))) (af (pureOf (h "value_of")) (v2 (ab al (vv 0) (vi 3)) (vv 1))))))))))))
theorem eR (n:Nat):Ph (n+2) "holds"=cJ 2 3 (dm (Ph (n+1)) (Ph n)):=by kernel_rfl
noncomputable def bt (x h:Str->GF):ES:=(aK (eV (aX (hG (vE (tX (dF (aT Att) (aa 0) "members") (vv 2)))) [] 1 (ag 3) (bV (aA oz (aa 3) (aa 1))) (vv 3))))
theorem cb (n:Nat):Ph (n+2) "Board.hands_beside"=cJ 3 3 (bt (Ph (n+1)) (Ph n)):=by kernel_rfl
noncomputable def di (h x:Str->GF):ES:=(ac (ak 6 (uP (dF (aT Att) (aa 0) "places") (v2 (vv 5) (vv 2))))
  (ac (ak 7 (tX (tX (tX (dF (aT Att) (aa 0) "pairs") (vv 6)) (vi 0)) (vi 2)))
  (ac (ak 8 (eV (ab al (vv 1) (vv 6))))
  (ac (ak 9 (eV (B6 (bV (aA dC (aa 7) (eV (vt "row")))) (gb (EQ (dB (aa 8))) dw (de (vi 1))) (af (pureOf (h "unlike_spots")) (v2 (vv 7) (vv 8))))))
  (bL (dI (aa 4) (aX (hG (vv 9)) [] 1 (ag 10) (bV (aA dC (eV (ab al (ab al (vv 8) (vv 10)) (vi 0))) (eV (ab al (vv 3) (vi 0))))) (az (v2 (vv 5) (vv 10))))))))))
noncomputable def dc (h x:Str->GF):ES:=(ac (dY (bV (aA rV (aa 3) (eV (vC (.non))))) (aK (eV (aS (v1 (vC (.non)))))) ei)
  (ac (ak 4 (cu aN))
  (ac (b7 (hG (vE (dA (mT Tb h) (aa 0) "hands_beside" (ae (aa 2) (ae (eV (ab al (vv 3) (vi 1))) ba))))) (ag 5) (di h x))
  (aK (aa 4)))))
theorem ff (n:Nat):Ph (n+2) "takeable"=cJ 4 10 (dc (Ph (n+1)) (Ph n)):=by kernel_rfl
noncomputable def d5 (h x:Str->GF):ES:=(fo (aa 4) (vv 5) (af (pureOf (h "value_of")) (v2 (vv 6) (vv 3))))
noncomputable def aG (x h:Str->GF):ES:=(ac (ak 10 (eV (vg (vv 4) (ab al (vv 9) (vi 0)) (ab al (vv 1) (vv 8)))))
  (ac (dY (fP (bV (aA Ct (eV (ab al (vv 9) (vi 0))) (aa 4))) (rM (bV (k8 Ex Ex (ab al (vv 9) (vi 1)) (vv 10) (ab al (vv 9) (vi 2)))))) (aK (eV (vC (.non)))) ei)
  (bL (a_ (aa 7) (aa 10)))))
noncomputable def bK (x h:Str->GF):ES:=(ac (ak 4 lU)
  (ac (b7 (hG (ab al (vv 2) (vi 4))) (aI [ag 5,ag 6]) (d5 x h))
  (ac (dY (fP (bV (aA db (eV (ab al (vv 2) (vi 3))) (eV (vC (.non))))) (bV (aA oz (eV (ab al (ab al (vv 2) (vi 3)) (vi 2))) (eV (vt ""))))) (fo (aa 4) (ab al (ab al (vv 2) (vi 3)) (vi 2)) (ab al (vv 3) (vt "it"))) ei)
  (ac (ak 7 (cu aN))
  (ac (b7 (gO (ab al (vv 0) (vi 3))) (aI [ag 8,ag 9]) (aG x h))
  (aK (eV (af bD (v1 (vv 7))))))))))
theorem cV (n:Nat):Ph (n+2) "cells_behind"=cJ 4 11 (bK (Ph (n+1)) (Ph n)):=by kernel_rfl
noncomputable def bx (h x:Str->GF):ES:=(ac (dY (xO (bV (aA rV (aa 2) (eV (vC (.non))))) (bV (aA dC (eV (ab al (vv 2) (vi 3))) (eV (vt ""))))) (aK (aa 1)) ei)
  (aK (eV (af (pureOf (h "replaced")) (v3 (vv 1) (l8 (ab al (vv 0) (vi 4)) (ab al (vv 2) (vi 3))) (ab al (vv 3) (vi 0)))))))
theorem cx (n:Nat):Ph (n+2) "whos_behind"=cJ 4 4 (bx (Ph (n+1)) (Ph n)):=by kernel_rfl
noncomputable def bY (h x:Str->GF):ES:=(ac (dY (bV (aA dC (aa 2) (eV (vt "who")))) (aK (eV (aS (v1 (az (v2 (az aN) (aS (v1 (ab al (vv 4) (l8 (ab al (vE (dA (mT Tb h) (aa 0) "family_of" (ae (aa 1) ba))) (vi 4)) (vv 3))))))))))) ei)
  (ac (ak 5 (dA (mT Tb h) (aa 0) "hands_beside" (ae (aa 1) (ae (aa 3) ba))))
  (ac (dY (bV (aA dC (aa 2) (eV (vt "all")))) (aK (eV (aS (v1 (az (v2 (az aN) (vv 5))))))) ei)
  (aK (eV (aX (hG (vv 5)) [] 1 (ag 6) fm (az (v2 (az (v1 (vv 6))) (aS (v1 (vv 6)))))))))))
theorem cU (n:Nat):Ph (n+2) "targets_of"=cJ 5 6 (bY (Ph (n+1)) (Ph n)):=by kernel_rfl
noncomputable def d9 (h x:Str->GF):ES:=(ac (ak 6 (sY (dF (aT Att) (aa 0) "places") (v2 (vv 2) (vv 5))))
  (ac (dY (xO (bV (aA rV (aa 6) (eV (vC (.non))))) (bV (ab E7 (af lZ (v1 (ab al (vv 4) (vi 1)))) (vi 999)))) (aK (eV (vC (.non)))) ei)
  (ac (ak 7 (tX (tX (dF (aT Att) (aa 0) "pairs") (vv 6)) (vi 0)))
  (ac (dY (bV (ab Ht (dB (eV (ab al (vv 1) (vv 6)))) (ab al (vv 7) (vi 3)))) (aK (eV (vC (.non)))) ei)
  (ac (ak 8 (eV (ab aq (ab al (vv 1) (vv 6)) (az (v1 (vv 4))))))
  (ac (dY (bV (aA dC (eV (ab al (vv 7) (vi 2))) (eV (vt "heap")))) (ak 8 (eV (af bD (v1 (oX (aa 8)))))) ei)
  (ak 1 (eV (af (pureOf (h "replaced")) (v3 (vv 1) (vv 6) (vv 8)))))))))))
noncomputable def eL (x h:Str->GF):ES:=(ac (b7 (hG (vv 3)) (ag 5) (d9 x h))
  (aK (aa 1)))
theorem gL (n:Nat):Ph (n+2) "posted"=cJ 5 9 (eL (Ph (n+1)) (Ph n)):=by kernel_rfl
noncomputable def eC (h x:Str->GF):ES:=(ac (ak 17 (eV (cD (h "posted") (ae (aa 0) (ae (aa 14) (ae (aa 1) (ae (aa 16) (ae (aa 11) ba))))))))
  (dY (bV (aA db (aa 17) (eV (vC (.non))))) (bL (a_ (aa 12) (eV (az (v2 (ab aq (vv 13) (vv 15)) (vv 17)))))) ei))
noncomputable def eB (h x:Str->GF):ES:=(b7 (hG (cD (h "targets_of") (ae (aa 0) (ae (aa 1) (ae (aa 9) (ae (aa 10) (ae (aa 5) ba))))))) (aI [ag 15,ag 16]) (eC h x))
noncomputable def eA (h x:Str->GF):ES:=(ac (ak 11 (eV (az (v2 (vv 7) (af (pureOf (h "value_of")) (v2 (vv 8) (vv 3)))))))
  (ac (ak 12 (cu aN))
  (ac (b7 (hG (vv 6)) (aI [ag 13,ag 14]) (eB h x))
  (ak 6 (aa 12)))))
noncomputable def dM (x h:Str->GF):ES:=(ac (ak 6 (eV (aS (v1 (az (v2 (az aN) (vv 4)))))))
  (ac (b7 (hG (vv 2)) (aI [ag 7,ag 8,ag 9,ag 10]) (eA x h))
  (aK (aa 6))))
theorem gh (n:Nat):Ph (n+2) "sendings"=cJ 6 18 (dM (Ph (n+1)) (Ph n)):=by kernel_rfl
noncomputable def fA (x h:Str->GF):ES:=(bL (a_ (aa 13) (eV (az (v2 (az (v5 (vt "step") (vv 2) (ab al (vv 3) (vi 0)) (vv 4) (vv 14))) (az (v2 (vv 12) (vv 15))))))))
noncomputable def bP (h x:Str->GF):ES:=(ac (ak 5 (dA (mT Tb h) (aa 0) "family_of" (ae (aa 2) ba)))
  (ac (sg (aI [ag 6,ag 7,ag 8]) (ab al (ab al (vv 1) (vi 0)) (vv 2)))
  (ac (ak 9 (eV (ab al (vv 1) (vi 1))))
  (ac (ak 10 (fX (h "values_of") (ae (aa 5) (ae (aa 7) ba))))
  (ac (dY (bV (aA db (aa 4) (eV (vC (.non))))) (ac (ak 11 (uP (dF (aT Att) (aa 0) "places") (v2 (ab al (vv 4) (vi 0)) (vv 2))))
  (ac (fo (aa 10) (vt "it") (ab al (ab al (ab al (vv 9) (vv 11)) (ab al (vv 4) (vi 1))) (vi 1)))
  (ak 9 (eV (af (pureOf (h "replaced")) (v3 (vv 9) (vv 11) (af (pureOf (h "without")) (v2 (ab al (vv 9) (vv 11)) (ab al (vv 4) (vi 1)))))))))) ei)
  (ac (ak 7 (eV (af (pureOf (h "cells_behind")) (v4 (vv 5) (vv 7) (vv 3) (vv 10)))))
  (ac (dY (bV (aA rV (aa 7) (eV (vC (.non))))) (aK (eV (aS aN))) ei)
  (ac (ak 8 (eV (af (pureOf (h "whos_behind")) (v4 (vv 5) (vv 8) (ab al (vv 3) (vi 3)) (vv 4)))))
  (ac (ak 12 (eV (af (pureOf (h "replaced")) (v3 (ab al (vv 1) (vi 0)) (vv 2) (az (v3 (l8 (ab al (vv 5) (vi 2)) (ab al (vv 3) (vi 6))) (vv 7) (vv 8)))))))
  (ac (ak 13 (cu aN))
  (ac (b7 (hG (cD (h "sendings") (ae (aa 0) (ae (aa 2) (ae (eV (ab al (vv 3) (vi 5))) (ae (aa 10) (ae (aa 9) (ae (aa 8) ba)))))))) (aI [ag 14,ag 15]) (fA h x))
  (aK (aa 13)))))))))))))
theorem d7 (n:Nat):Ph (n+2) "step_ends"=cJ 5 16 (bP (Ph (n+1)) (Ph n)):=by kernel_rfl
noncomputable def fE (h x:Str->GF):ES:=(bL (dI (aa 8) (cD (h "step_ends") (ae (aa 0) (ae (aa 1) (ae (aa 2) (ae (aa 9) (ae (aa 10) ba))))))))
noncomputable def cY (h x:Str->GF):ES:=(dY (fP (bV (aA dC (eV (ab al (vv 9) (vi 1))) (eV (ab al (ab al (vv 3) (vi 2)) (vv 4))))) (bT (eV (af (pureOf (h "holds")) (v2 (ab al (vv 9) (vi 2)) (vv 7)))))) (b7 (hG (cD (h "takeable") (ae (aa 0) (ae (eV (ab al (vv 1) (vi 1))) (ae (aa 2) (ae (eV (ab al (vv 9) (vi 3))) ba)))))) (ag 10) (fE h x)) ei)
noncomputable def cF (h x:Str->GF):ES:=(ac (ak 3 (dA (mT Tb h) (aa 0) "family_of" (ae (aa 2) ba)))
  (ac (sg (aI [ag 4,ag 5,ag 6]) (ab al (ab al (vv 1) (vi 0)) (vv 2)))
  (ac (ak 7 (eV (af (pureOf (h "values_of")) (v2 (vv 3) (vv 5)))))
  (ac (ak 8 (cu aN))
  (ac (b7 (hG (ab al (vv 3) (vi 5))) (ag 9) (cY h x))
  (aK (aa 8)))))))
theorem fJ (n:Nat):Ph (n+2) "hand_ends"=cJ 3 11 (cF (Ph (n+1)) (Ph n)):=by kernel_rfl
noncomputable def jA (h x:Str->GF):ES:=(bL (dI (aa 2) (cD (h "hand_ends") (ae (aa 0) (ae (aa 1) (ae (aa 3) ba))))))
noncomputable def jB (h x:Str->GF):ES:=(ac (ak 2 (cu aN))
  (ac (b7 (hJ (dB (dF (aT Att) (aa 0) "homes"))) (ag 3) (jA h x))
  (ac (bL (dI (aa 2) (cD (h "flaw_ends") (ae (aa 0) (ae (aa 1) (ae (eV (vt "lose")) ba))))))
  (ac (bL (dI (aa 2) (cD (h "flaw_ends") (ae (aa 0) (ae (aa 1) (ae (eV (vt "double")) ba))))))
  (aK (aa 2))))))
theorem sW (n:Nat):Ph (n+2) "ends_on"=cJ 2 4 (jB (Ph (n+1)) (Ph n)):=by kernel_rfl
noncomputable def b6 (h x:Str->GF):ES:=(bL (a_ (mO (dF (aT Att) (aa 0) "members") (ab al (vE (dA (mT Tb h) (aa 0) "family_of" (ae (aa 4) ba))) (vi 0)) (cu aN)) (aa 4)))
noncomputable def fj (x h:Str->GF):ES:=(vr (dF (aT Att) (aa 0) "places") (v2 (ab al (vv 3) (vi 1)) (ab al (vv 3) (vi 2))) (vv 2))
noncomputable def gN (h x:Str->GF):ES:=(ac (kx (aT Att) (aa 0) "families" (eV (ab al (vv 1) (vi 0))))
  (ac (kx (aT Att) (aa 0) "homes" (fX (h "families_of") (ae (aa 1) ba)))
  (ac (kx (aT Att) (aa 0) "pairs" (fX (h "pairs_of") (ae (aa 1) ba)))
  (ac (kx (aT Att) (aa 0) "places" qQ)
  (ac (b7 (gO (vE (dF (aT Att) (aa 0) "pairs"))) (aI [ag 2,ag 3]) (fj h x))
  (ac (kx (aT Att) (aa 0) "members" lU)
  (b7 (hJ (dB (dF (aT Att) (aa 0) "homes"))) (ag 4) (b6 h x))))))))
theorem nS (n:Nat):Ph (n+2) "Board.__init__"=cJ 2 5 (gN (Ph (n+1)) (Ph n)):=by kernel_rfl
noncomputable def jW (x h:Str->GF):ES:=(aK (eV (cD (x "ends_on") (ae (pf (h "Board.__init__") "Board" (ae (aa 0) ba)) (ae (aa 1) ba)))))
theorem oG (n:Nat):Ph (n+2) "ends_from"=cJ 2 2 (jW (Ph (n+1)) (Ph n)):=by kernel_rfl
noncomputable def cw (x h:Str->GF):ES:=(ac (ak 9 (eV (ab aq (gb (vv 6) dw (de (vv 7))) (gb (vv 6) (de (ab aq (vv 7) (vi 1))) dw))))
  (ac (dY (bV (aA dC (aa 2) (eV (vt "double")))) (ak 9 (eV (ab aq (ab aq (gb (vv 6) dw (de (vv 7))) (az (v2 (vv 8) (vv 8)))) (gb (vv 6) (de (ab aq (vv 7) (vi 1))) dw)))) ei)
  (ac (ak 10 (eV (ab al (ab al (vv 5) (vi 0)) (vi 4))))
  (ac (dY (bV (aA dC (aa 2) (eV (vt "double")))) (ak 10 (eV (vB (fP (bV (ab al (ab al (vv 5) (vi 0)) (vi 5))) (bV (ab Ex (dB (aa 9)) (ab al (ab al (vv 5) (vi 0)) (vi 3)))))))) ei)
  (dY (fP (bT (aa 10)) (xO (bV (aA dC (eV (ab al (ab al (vv 5) (vi 0)) (vi 2))) (eV (vt "row")))) (bV (aA dC (eV (l8 (vv 6) (vv 8))) (aa 7))))) (ac (ak 11 (eV (az (v2 (ab al (vv 1) (vi 0)) (ab aq (ab aq (gb (ab al (vv 1) (vi 1)) dw (de (vv 4))) (az (v1 (vv 9)))) (gb (ab al (vv 1) (vi 1)) (de (ab aq (vv 4) (vi 1))) dw))))))
  (bL (a_ (aa 3) (eV (az (v2 (az (v4 (vv 2) (ab al (vv 5) (vi 1)) (ab al (vv 5) (vi 2)) (vv 7))) (vv 11))))))) ei)))))
noncomputable def dt (x h:Str->GF):ES:=(ac (ak 6 (eV (ab al (ab al (vv 1) (vi 1)) (vv 4))))
  (b7 (gO (vv 6)) (aI [ag 7,ag 8]) (cw x h)))
noncomputable def eM (h x:Str->GF):ES:=(ac (ak 3 (cu aN))
  (ac (b7 (gO (af (pureOf (h "_law_pairs")) (v1 (vv 0)))) (aI [ag 4,ag 5]) (dt h x))
  (aK (aa 3))))
theorem j9 (n:Nat):Ph (n+2) "_law_road_deeds"=cJ 3 12 (eM (Ph (n+1)) (Ph n)):=by kernel_rfl
noncomputable def pG (h x:Str->GF):ES:=(aK (eV (aX (hG (af (pureOf (h "ends_from")) (v2 (vv 0) (vv 1)))) [] 1 (ag 2) fm (ab al (vv 2) (vi 0)))))
theorem xx (n:Nat):Ph (n+2) "deeds"=cJ 2 2 (pG (Ph (n+1)) (Ph n)):=by kernel_rfl
noncomputable def gp (x h:Str->GF):ES:=(dY (bV (aA dC (aa 3) (aa 2))) (aK (aa 4)) ei)
noncomputable def lF (h x:Str->GF):ES:=(ac (b7 (hG (cD (h "ends_on") (ae (aa 0) (ae (aa 1) ba)))) (aI [ag 3,ag 4]) (gp h x))
  nl)
theorem xw (n:Nat):Ph (n+2) "do_on"=cJ 3 5 (lF (Ph (n+1)) (Ph n)):=by kernel_rfl
noncomputable def Ai (x h:Str->GF):ES:=(aK (eV (cD (x "do_on") (ae (pf (h "Board.__init__") "Board" (ae (aa 0) ba)) (ae (aa 1) (ae (aa 2) ba))))))
theorem Eo (n:Nat):Ph (n+2) "do"=cJ 3 3 (Ai (Ph (n+1)) (Ph n)):=by kernel_rfl
noncomputable def kf (h x:Str->GF):ES:=(dY (bV (aA oz (eV (af (pureOf (h "do")) (v3 (vv 2) (vv 3) (vv 7)))) (aa 8))) (aK (eV (vC (.bl false)))) ei)
noncomputable def iQ (h x:Str->GF):ES:=(ac (ak 4 (eV (ab aq (af (pureOf (h "_law_road_deeds")) (v3 (vv 1) (vv 3) (vt "lose"))) (af (pureOf (h "_law_road_deeds")) (v3 (vv 1) (vv 3) (vt "double"))))))
  (ac (ak 5 (eV (af (pureOf (h "ends_from")) (v2 (vv 2) (vv 3)))))
  (ac (ak 6 (eV (aX (hG (vv 5)) [] 1 (ag 9) (bV (aA dC (eV (ab al (ab al (vv 9) (vi 0)) (vi 0))) (eV (vt "step")))) (vv 9))))
  (ac (dY (bV (aA oz (aa 5) (eV (ab aq (vv 6) (vv 4))))) (aK (eV (vC (.bl false)))) ei)
  (ac (dY (bV (aA oz (eV (gb (af (pureOf (h "deeds")) (v2 (vv 2) (vv 3))) (de (dB (aa 6))) dw)) (eV (aX (hG (vv 4)) [7,8] 0 (aI [ag 7,ag 8]) fm (vv 7))))) (aK (eV (vC (.bl false)))) ei)
  (b7 (hG (gb (vv 4) dw (de (vi 12)))) (aI [ag 7,ag 8]) (kf h x)))))))
noncomputable def rL (h x:Str->GF):ES:=(ac (ak 1 (eV (af (pureOf (h "_law_plan")) (v2 (vv 0) (vi 3)))))
  (ac (ak 2 (eV (az (v3 (af hU (v1 (ab al (vv 1) (vi 0)))) (af hU (v1 (ab al (vv 1) (vi 1)))) (af hU (v1 (ab al (vv 1) (vi 2))))))))
  (ac (b7 (hG (aS (v2 (af (pureOf (h "_law_standing")) (v2 (vv 0) (vv 1))) (af (pureOf (h "begin")) (v1 (vv 1)))))) (ag 3) (iQ h x))
  (aK (eV (aA dC (aa 2) (aa 1)))))))
theorem BJ (n:Nat):Ph (n+2) "law"=cJ 1 9 (rL (Ph (n+1)) (Ph n)):=by kernel_rfl
variable {a:Type}{m:List a}
theorem EW (h:m.length=n+1):∃a r,m=a::r/\r.length=n:=by
 cases m with
 | nil=>cases h
 | cons a r=>exact⟨a,r,rfl,Nat.succ.inj h⟩
theorem KA (h:m.length=1):∃a,m=[a]:=by obtain⟨a,r,rfl,x⟩:=EW h;exact⟨a,by rw [iB x]⟩
theorem Ij (h:m.length=2):∃a b,m=[a,b]:=by obtain⟨a,r,rfl,x⟩:=EW h;obtain⟨b,rfl⟩:=KA x;exact⟨a,b,rfl⟩
theorem JX (h:m.length=3):∃a b c,m=[a,b,c]:=by obtain⟨a,r,rfl,x⟩:=EW h;obtain⟨b,c,rfl⟩:=Ij x;exact⟨a,b,c,rfl⟩
theorem Kz (h:m.length=4):∃a b c d,m=[a,b,c,d]:=by obtain⟨a,r,rfl,x⟩:=EW h;obtain⟨b,c,d,rfl⟩:=JX x;exact⟨a,b,c,d,rfl⟩
theorem Ky (h:m.length=5):∃a b c d e,m=[a,b,c,d,e]:=by obtain⟨a,r,rfl,x⟩:=EW h;obtain⟨b,c,d,e,rfl⟩:=Kz x;exact⟨a,b,c,d,e,rfl⟩
theorem Lp (h:m.length=6):∃a b c d e g,m=[a,b,c,d,e,g]:=by obtain⟨a,r,rfl,x⟩:=EW h;obtain⟨b,c,d,e,g,rfl⟩:=Ky x;exact⟨a,b,c,d,e,g,rfl⟩
theorem sc:Tb.all HY=true:=by decide +kernel
theorem un:(Tb.map (·.name)).Nodup:=by decide +kernel
noncomputable def Fn (K:FG) (t:Nat) (x:Str):Prop:=∃(f:Addr) (o:Value) (e:Option Addr) (kV d p:Value) (a:Option Addr) (c h:Value) (s:Array (OV)),PySem.W.nsIn K mainGlobals x=some (some (.ref f))/\K.lookup f=some ⟨o,e,.func (PySem.W.fnOf x x (gm (dQ t)) (dJ (dQ t)) (aP (dQ t)) .none kV d p a c h),s⟩/\PySem.W.codeIn K c x=true/\PySem.W.keepIn K (.ref f)=true
variable {h:Heap}{b:SV}{x:Str}
theorem dk (X:K.In h) (G:h.Ns mainGlobals b) (H:Fn K t x)
  (r:∀(kV o p:Value) (n:Option Addr) (d e:Value) (m:LV),m.length=ps.length->bindArgs (PySem.W.fnOf x x (gm (dQ t)) (dJ (dQ t)) (aP (dQ t)) .none kV o p n d e) ⟨m,[]⟩=pure (ps.zip m)):∃f s,DOk K b ⟨x,x,"",dQ t,N,ps,i,w,j⟩ f s:=by
 obtain⟨f,u,g,kV,v,p,n,q,e,y,a,l,c,k⟩:=H;exact⟨_,_,⟨ju l c k,(ju l c k).binds r,fun _=>PySem.W.mg_of X G a,fun h=>absurd (show ("":Str).cps.isEmpty=false from h) (by decide +kernel)⟩⟩
noncomputable def Gi (K:FG) (x:Str) (i:Int):Prop:=∃t,PySem.W.nsIn K mainGlobals x=some (some (.int i t))
theorem Cr (X:K.In h) (G:h.Ns mainGlobals b){i:Int} (H:Gi K x i):kR w K b x (.int i):=by obtain⟨t,a⟩:=H;exact .plain ⟨_,.int i,PySem.W.mg_of X G a,⟨_,rfl⟩,fun _ _=>rfl⟩ rfl
open PySem.W in
theorem EH (X:K.In h) (G:h.Ns mainGlobals b)
  (s:nsIn K mainGlobals "Board"=some (some (.ref C))) (n:plainGet K C Str.empty=true) (k:hasDictIn K C=true) (a:plainOver K C=true) (r:findIn K (.ref C) "__setattr__"=some (some (.builtin "object.__setattr__"))) (T:makesIn K C=true) (U:keepIn K (.ref C)=true)
  (y:findIn K (.ref C) "families"=some none)
  (o:findIn K (.ref C) "homes"=some none)
  (H:findIn K (.ref C) "members"=some none)
  (S:findIn K (.ref C) "pairs"=some none)
  (F:findIn K (.ref C) "places"=some none)
  (h0:Fn K 35 "_law_cell_at") (h1:Fn K 36 "_law_mix") (h2:Fn K 41 "_law_roads") (h3:Fn K 37 "_law_name") (h4:Fn K 38 "_law_cells") (h5:Fn K 39 "_law_sum") (h6:Fn K 42 "_law_sends") (h7:Fn K 40 "_law_condition") (h8:Fn K 43 "_law_step") (h9:Fn K 44 "_law_family") (h10:Fn K 45 "_law_plan") (h11:Fn K 46 "_law_families") (h12:Fn K 47 "_law_crew") (h13:Fn K 48 "_law_pairs") (h14:Fn K 49 "_law_standing") (h15:Fn K 11 "families_of") (h16:Fn K 12 "pairs_of") (h17:Fn K 13 "begin") (h18:Fn K 30 "has_flaw") (h19:Fn K 22 "unlike_spots") (h20:Fn K 33 "replaced") (h21:Fn K 32 "without") (h22:Fn K 31 "flawed") (h23:Fn K 29 "flaw_ends") (h25:Fn K 20 "values_of") (h26:Fn K 6 "compared") (h27:Fn K 4 "value_of") (h28:Fn K 5 "holds") (h30:Fn K 21 "takeable") (h31:Fn K 24 "cells_behind") (h32:Fn K 25 "whos_behind") (h33:Fn K 27 "targets_of") (h34:Fn K 28 "posted") (h35:Fn K 26 "sendings") (h36:Fn K 23 "step_ends") (h37:Fn K 19 "hand_ends") (h38:Fn K 18 "ends_on") (h40:Fn K 17 "ends_from") (h41:Fn K 50 "_law_road_deeds") (h42:Fn K 14 "deeds") (h43:Fn K 16 "do_on") (h44:Fn K 15 "do") (h45:Fn K 51 "law")
  (O:findIn K (.ref C) "family_of"=some (some (.ref p))) (V:isFn K (.ref p)=true)
  (L:K.lookup p=some ⟨oc24,od24,.func (fnOf "family_of" "Board.family_of" (gm (L2.cv (dQ 10) 1)) (dJ (L2.cv (dQ 10) 1)) (aP (L2.cv (dQ 10) 1)) .none kV24 dc24 pm24 an24 E ct24),sl24⟩) (P:codeIn K E "Board.family_of"=true) (i:keepIn K (.ref p)=true)
  (Q:findIn K (.ref C) "hands_beside"=some (some (.ref q))) (W:isFn K (.ref q)=true)
  (M:K.lookup q=some ⟨oc29,od29,.func (fnOf "hands_beside" "Board.hands_beside" (gm (L2.cv (dQ 10) 2)) (dJ (L2.cv (dQ 10) 2)) (aP (L2.cv (dQ 10) 2)) .none kV29 dc29 pm29 an29 I ct29),sl29⟩) (A:codeIn K I "Board.hands_beside"=true) (j:keepIn K (.ref q)=true)
  (R:findIn K (.ref C) "__init__"=some (some (.ref u))) (Y:isFn K (.ref u)=true)
  (N:K.lookup u=some ⟨oc39,od39,.func (fnOf "__init__" "Board.__init__" (gm (L2.cv (dQ 10) 0)) (dJ (L2.cv (dQ 10) 0)) (aP (L2.cv (dQ 10) 0)) .none kV39 dc39 pm39 an39 J ct39),sl39⟩) (B:codeIn K J "Board.__init__"=true) (D:keepIn K (.ref u)=true)
  (g0:Gi K "HIGHEST_LETTER" 999) (g1:Gi K "NOBODY" (-1))
  (z:∀x ∈ BW,nsIn K mainGlobals x=some none)
  : TOk w Gv Att Tb K b:=by
 refine⟨fun d hd=>?_,sc,un,fun x g=>mg_none_of X G (z x g),fun x v t=>?_,fun c f hc=>?_⟩
 .simp only [Tb,bj,dU,dS] at hd;rcases hd with rfl | rfl | rfl | rfl | rfl | rfl | rfl | rfl | rfl | rfl | rfl | rfl | rfl | rfl | rfl | rfl | rfl | rfl | rfl | rfl | rfl | rfl | rfl | rfl | rfl | rfl | rfl | rfl | rfl | rfl | rfl | rfl | rfl | rfl | rfl | rfl | rfl | rfl | rfl | rfl | rfl | rfl | rfl | rfl | rfl | rfl;all_goals first
   | exact⟨_,_,⟨ju (st:=(L2.cv (dQ 10) 1)) L P i,(ju (st:=(L2.cv (dQ 10) 1)) L P i).binds (ps:=["self","hand"]) fun _ _ _ _ _ _ m l=>by obtain⟨_,_,rfl⟩:=Ij l;rfl,fun h=>absurd h (by decide +kernel),fun _=>⟨_,s,mg_of X G s,⟨n,k,a,r⟩,fun h=>absurd h (by decide +kernel),fun _=>⟨O,V,i⟩⟩⟩⟩
   | exact⟨_,_,⟨ju (st:=(L2.cv (dQ 10) 2)) M A j,(ju (st:=(L2.cv (dQ 10) 2)) M A j).binds (ps:=["self","hand","name"]) fun _ _ _ _ _ _ m l=>by obtain⟨_,_,_,rfl⟩:=JX l;rfl,fun h=>absurd h (by decide +kernel),fun _=>⟨_,s,mg_of X G s,⟨n,k,a,r⟩,fun h=>absurd h (by decide +kernel),fun _=>⟨Q,W,j⟩⟩⟩⟩
   | exact⟨_,_,⟨ju (st:=(L2.cv (dQ 10) 0)) N B D,(ju (st:=(L2.cv (dQ 10) 0)) N B D).binds (ps:=["self","plan"]) fun _ _ _ _ _ _ m l=>by obtain⟨_,_,rfl⟩:=Ij l;rfl,fun h=>absurd h (by decide +kernel),fun _=>⟨_,s,mg_of X G s,⟨n,k,a,r⟩,fun _=>⟨T,R,Y,U⟩,fun h=>absurd rfl h⟩⟩⟩
   | exact dk X G (by assumption) fun _ _ _ _ _ _ m l=>by first | (obtain⟨_,rfl⟩:=KA l;rfl) | (obtain⟨_,_,rfl⟩:=Ij l;rfl) | (obtain⟨_,_,_,rfl⟩:=JX l;rfl) | (obtain⟨_,_,_,_,rfl⟩:=Kz l;rfl) | (obtain⟨_,_,_,_,_,rfl⟩:=Ky l;rfl) | (obtain⟨_,_,_,_,_,_,rfl⟩:=Lp l;rfl)
 .unfold Gv at t;by_cases e:x=("HIGHEST_LETTER":Str)
  .rw [if_pos e] at t;subst e;cases t;exact Cr X G g0
  rw [if_neg e] at t;clear e;by_cases e:x=("NOBODY":Str)
  .rw [if_pos e] at t;subst e;cases t;exact Cr X G g1
  rw [if_neg e] at t;clear e;cases t
 .obtain⟨x,g,e⟩:=pJ.mp hc;rw [Bool.and_eq_true] at e;have e1:=of_decide_eq_true e.1;have Z:f ∈ x.2:=by simpa using e.2
  subst e1;rcases bj.mp g with g | g
  .subst g;simp only [bj,dU,dS] at Z;rcases Z with rfl | rfl | rfl | rfl | rfl
   .exact⟨_,s,⟨n,k,a,r⟩,y⟩
   .exact⟨_,s,⟨n,k,a,r⟩,o⟩
   .exact⟨_,s,⟨n,k,a,r⟩,H⟩
   .exact⟨_,s,⟨n,k,a,r⟩,S⟩
   .exact⟨_,s,⟨n,k,a,r⟩,F⟩
  cases g
theorem log2_small {i:Int} (h:i.natAbs < 2 ^ 60):i.natAbs.log2 < 60:=by
 by_cases e:i.natAbs=0
 .rw [e];decide
 .exact (Nat.log2_lt e).mpr h
theorem bw {i j:Int} (h:i.natAbs < 2 ^ 60) (x:j.natAbs < 2 ^ 60):fq i j=true:=by unfold fq;have a:=log2_small h;have b:=log2_small x;exact iq (by lia)
theorem DN:∀(n:Nat) (v:P),bR n v=true->bR (n+1) v=true:=by
 intro n;induction n with
 | zero=>intro v h;cases v <;> first | rfl | exact h | cases h
 | succ n i=>
  intro v h;cases v with
  | tup s=>exact bn.mpr fun x a=>i x (bn.mp h x a)
  | lst s=>exact bn.mpr fun x a=>i x (bn.mp h x a)
  | ro s=>exact bn.mpr fun x a=>i x (bn.mp h x a)
  | non=>rfl
  | bl _=>rfl
  | int _=>rfl
  | str _=>exact h
  | dct _ _=>cases h
variable {v:P}
theorem br (h:bR n v=true) (m:n≤e):bR e v=true:=by
 obtain⟨k,rfl⟩:=Nat.exists_eq_add_of_le m;clear m;induction k with
 | zero=>exact h
 | succ k i=>exact DN _ _ i
noncomputable def strOk (x:Str):Prop:=PyData.strOk x=true
@[simp] theorem Bl (n:Nat) (i:Int):bR n (.int i)=true:=by cases n <;> rfl
@[simp] theorem JS (n:Nat) (i:Bool):bR n (.bl i)=true:=by cases n <;> rfl
@[simp] theorem Ib (n:Nat):bR n .non=true:=by cases n <;> rfl
@[simp] theorem vH (n:Nat) (x:Str):bR n (.str x)=PyData.strOk x:=by cases n <;> rfl
@[simp] theorem Ia (n:Nat) (s:List P):bR (n+1) (.tup s)=s.all (bR n):=rfl
@[simp] theorem Ic (n:Nat) (s:List P):bR (n+1) (.lst s)=s.all (bR n):=rfl
theorem Aq (h:∀x ∈ s,bR n x=true):bR (n+1) (.lst s)=true:=bn.mpr h
@[simp] theorem vQ (c:Nat):Str.length ⟨#[c]⟩=1:=rfl
theorem wO (h:strOk x) (a:strOk y):strOk (x++y):=by show (x.cps++y.cps).all (fun c=>decide (c < 0x110000))=true;rw [Array.all_append,Bool.and_eq_true];exact⟨h,a⟩
theorem wN (e:strOk x) (n:Nat):strOk (dE x n):=by
 have k:∀(n:Nat) (a:Array Nat),a.all (fun c=>decide (c < 0x110000))=true->((List.replicate n x.cps).foldl (·++·) a).all (fun c=>decide (c < 0x110000))=true:=by
  intro n;induction n with
  | zero=>intro a h;exact h
  | succ n i=>intro a h;rw [dq,gC];exact i _ (by rw [Array.all_append,Bool.and_eq_true];exact⟨h,e⟩)
 exact k n #[] (by simp)
variable {k:Int}
theorem zX (f:strOk x) (a:0≤k) (s:k < x.length) (n:x.length≤1000000):∃c,strOk ⟨#[c]⟩/\al (.str x) (.int k)=some (.str ⟨#[c]⟩):=by
 have l:k.toNat < x.cps.toList.length:=by simp only [mW];unfold Str.length at s;lia
 have h:k.toNat < x.cps.size:=by simpa using l
 refine⟨x.cps.toList[k.toNat],?_,?_⟩
 .have:=Array.all_eq_true.mp f k.toNat h;show (#[x.cps.toList[k.toNat]].all fun c=>decide (c < 0x110000))=true;simpa using this
 .have e:L2.atI x.cps.toList k=some (x.cps.toList[k.toNat]):=aU a (by simp [h]);show (if fZ x.length=true then (L2.atI x.cps.toList k).map fun c=>P.str ⟨#[c]⟩ else none)=_;rw [if_pos (by simp only [kK];exact n),e];rfl
theorem xK (h:x.length+y.length≤1000000):rD (.str x) (.str y)=some (.str (x++y)):=by show (if fZ (x.length+y.length)=true then some (P.str (x++y)) else none)=_;rw [if_pos (by rw [kK];exact h)]
variable {s:List a}
theorem d_ (h:s≠[]) (a:Int):∃x ∈ s,L2.atI s (a % (s.length:Int))=some x:=by
 have l:(0:Int) < (s.length:Int):=by cases s with | nil=>exact absurd rfl h | cons _ _=>simp
 have e:=dn a (Int.ne_of_gt l);have n:=dW a l;have k:(a % (s.length:Int)).toNat < s.length:=by lia
 exact⟨s[(a % (s.length:Int)).toNat],gD _,aU e (by simp [k])⟩
theorem u3 (h:0≤k) (e:k < (s.length:Int)):∃x ∈ s,L2.atI s k=some x:=by
 have a:k.toNat < s.length:=by lia
 exact⟨s[k.toNat],gD _,aU h (by simp [a])⟩
theorem atI_last (h:s≠[]):∃x ∈ s,L2.atI s (-1)=some x:=by
 have l:0 < s.length:=List.length_pos_iff.mpr h;refine⟨s[s.length-1],gD _,?_⟩;unfold L2.atI L2.xc;rw [if_neg (by lia),if_pos (by lia)];have e:(-1+(s.length:Int)).toNat=s.length-1:=by lia
 simp [e,l]
theorem bg {g:i4}{b:ES}{Inv:Nat->Lc->aD->Prop}:∀{s:List P}{k:Nat}{L:Lc}{S:aD},(∀i v L S,s[i]? = some v->Inv (k+i) L S->∃f L2 n,g v L=some f/\b f S=some (.nx,L2,n)/\Inv (k+i+1) L2 n)->Inv k L S ->
  ∃x a,aO g b s L S=some (.nx,x,a)/\Inv (k+s.length) x a
 | [],k,L,S,_,h=>⟨L,S,rfl,h⟩
 | v::r,k,L,S,c,h=>by
  obtain⟨f,L2,n,m,t,d⟩:=c 0 v L S rfl h;obtain⟨x,a,p,u⟩:=bg (g:=g) (b:=b) (Inv:=Inv) (s:=r) (k:=k+1) (L:=L2) (S:=n) (fun i w L S e q=>by have:=c (i+1) w L S (by simpa using e) (by rw [show k+(i+1)=k+1+i by lia];exact q);rwa [show k+(i+1)+1=k+1+i+1 by lia] at this) d
  exact⟨x,a,by rw [bf m t];exact p,by rw [bc,show k+(r.length+1)=k+1+r.length by lia];exact u⟩
theorem lD {g:i4}{c:EB}{e:EV}{Inv:Lc->Prop}{Q:P->Prop}{S:aD}:∀{s:List P}{L:Lc},(∀v ∈ s,∀L,Inv L->∃x k,g v L=some x/\Inv x/\c x S=some (k,S)/\(k=true->∃y,e x S=some (y,S)/\Q y))->Inv L ->
  ∃a,bb g c e s L S=some (a,S)/\(∀y ∈ a,Q y)/\a.length≤s.length
 | [],L,_,h=>⟨[],rfl,fun _ z=>(by cases z),Nat.le_refl _⟩
 | v::r,L,t,h=>by
  obtain⟨x,k,n,i,f,d⟩:=t v List.mem_cons_self L h;obtain⟨a,b,m,j⟩:=lD (s:=r) (L:=x) (fun w hw=>t w (aY _ hw)) i;cases k with
  | false=>exact⟨a,by simp [bb,n,f,b],m,by simp;lia⟩
  | true=>obtain⟨y,p,q⟩:=d rfl;exact⟨y::a,by simp [bb,n,f,b,p],fun z u=>(bj.mp u).elim (fun e=>e ▸ q) (m z),by simp;lia⟩
theorem ke {g:i4}{e:EV}{Inv:Lc->Prop}{Q:P->Prop}{S:aD}:∀{s:List P}{L:Lc},(∀v ∈ s,∀L,Inv L->∃x y,g v L=some x/\Inv x/\e x S=some (y,S)/\Q y)->Inv L ->
  ∃a,bb g fm e s L S=some (a,S)/\(∀y ∈ a,Q y)/\a.length=s.length
 | [],L,_,h=>⟨[],rfl,fun _ z=>(by cases z),rfl⟩
 | v::r,L,n,h=>by obtain⟨x,y,k,i,f,q⟩:=n v List.mem_cons_self L h;obtain⟨a,b,c,m⟩:=ke (s:=r) (L:=x) (fun w hw=>n w (aY _ hw)) i;exact⟨y::a,by simp [bb,k,f,b],fun z t=>(bj.mp t).elim (fun e=>e ▸ q) (c z),by simp [m]⟩
theorem bI {g:i4}{c:EB}{e:EV}{Inv:Lc->Prop}{S:aD}{p:P->Bool}{f:P->P}:∀{s:List P}{L:Lc},(∀v ∈ s,∀L,Inv L->∃x,g v L=some x/\Inv x/\c x S=some (p v,S)/\(p v=true->e x S=some (f v,S)))->Inv L ->
  bb g c e s L S=some ((s.filter p).map f,S)
 | [],L,_,h=>rfl
 | v::r,L,m,h=>by
  obtain⟨x,n,i,a,t⟩:=m v List.mem_cons_self L h;have b:=bI (s:=r) (L:=x) (fun w hw=>m w (aY _ hw)) i;cases k:p v with
  | false=>rw [k] at a;simp [bb,n,a,b,k]
  | true=>rw [k] at a;simp [bb,n,a,b,k,t k]
theorem ints_get {lo:Int}{n i:Nat}{v:P} (h:(intsFrom lo n)[i]? = some v):v=.int (lo+i)/\i < n:=by
 unfold Ev.intsFrom at h;rw [List.getElem?_map] at h;cases e:(List.range n)[i]? with
 | none=>rw [e] at h;cases h
 | some j=>
  rw [e] at h;cases h;have:=List.getElem?_eq_some_iff.mp e
  obtain⟨x,a⟩:=this;simp at x a;subst a;exact⟨rfl,x⟩
theorem fM {lo:Int}{n:Nat}{v:P} (h:v ∈ intsFrom lo n):∃i:Nat,v=.int (lo+i)/\i < n:=by obtain⟨i,x,e⟩:=jf.mp h;exact⟨i,ints_get (by rw [cR x,e])⟩
theorem bH (lo:Int) (n:Nat):(intsFrom lo n).length=n:=by simp [Ev.intsFrom]
theorem y' (k n:Str->GF) (s:List P):∀(a:Int) (p t q:Option D),∃(r:Int) (e:Option D),aO (ag 2) (gM k n) s [qi a,p,t,q] []=some (.nx,[qi r,p,e,q],[]):=by
 induction s with
 | nil=>intro a p t q;exact⟨a,t,rfl⟩
 | cons x s i=>intro a p t q;obtain⟨r,e,h⟩:=i (a / 2147483648) p (qp x) q;exact⟨r,e,by simpa [aO,gM] using h⟩
theorem qB (i:2≤n) (a:Int) {p:Int} (s:0≤p) (k:p < 1000):∃r:Int,0≤r/\pureOf (Ph n "_law_mix") [.int a,.int p]=some (.int r):=by
 obtain⟨n,rfl⟩:=fR (n:=n) (by first | assumption | lia);by_cases h:(1000000000000:Int)≤a
 .obtain⟨r,j,e⟩:=y' (Ph (n+1)) (Ph n) (intsFrom 0 (p % 61).toNat) (a / 1000000000000-1) (qi p) none none;refine⟨r % 2147483648,dn _ (by decide),?_⟩;have c:(p % 61).natAbs < 1000000:=by lia
  rw [lT,ai];simp [jy,h,c,e]
 .have m:0≤p * p/\p * p≤1000000:=⟨Int.mul_nonneg s s,Int.le_trans (Int.mul_le_mul (Int.le_of_lt k) (Int.le_of_lt k) s (by decide)) (by decide)⟩;have v:fq p p=true:=bw (by lia) (by lia);have d:fq (p * p) 7919=true:=bw (by lia) (by decide);have w:fq (a % 1000003+p * p * 7919+p) 48271=true:=bw (by lia) (by decide);generalize f:(a % 1000003+p * p * 7919+p) * 48271 % 2147483629=x;have t:0≤x/\x < 2147483629:=by subst f;exact⟨dn _ (by decide),dW _ (by decide)⟩
  have u:fq x x=true:=bw (by lia) (by lia);generalize b:x * x % 2147483587=y;have q:0≤y/\y < 2147483587:=by subst b;exact⟨dn _ (by decide),dW _ (by decide)⟩
  have g:fq y (y+2)=true:=bw (by lia) (by lia);refine⟨y * (y+2) % 2147483579 / 7,Int.ediv_nonneg (dn _ (by decide)) (by decide),?_⟩;rw [lT,ai];simp [jy,h,v,d,w,f,u,b,g]
noncomputable def cZ (n:List Int):P:=.ro (n.map .int)
theorem rF (f:2≤n) (s:List Int) (x:0≤k):∃r:Int,pureOf (Ph n "_law_cell_at") [cZ s,.int k]=some (.int r):=by
 obtain⟨n,rfl⟩:=fR (n:=n) (by first | assumption | lia);by_cases h:k < (s.length:Int)
 .have a:k.toNat < s.length:=by lia
  refine⟨s[k.toNat],?_⟩;have e:L2.atI (s.map P.int) k=some (.int s[k.toNat]):=aU x (by simp [a]);rw [iY,ai];simp [f_,cZ,b_,cE,h,e]
 .refine⟨0,?_⟩;rw [iY,ai];simp [f_,cZ,b_,cE,h]
theorem gY {n:Nat} (h:2≤n) (s:List Int) {k p:Int} (a:0≤k) (f:0≤p) (b:p < 1000):∃c r:Int,0≤r/\pureOf (Ph n "_law_cell_at") [cZ s,.int k]=some (.int c)/\pureOf (Ph n "_law_mix") [.int c,.int p]=some (.int r):=by obtain⟨c,e⟩:=rF h s a;obtain⟨r,m,x⟩:=qB h c f b;exact⟨c,r,m,e,x⟩
theorem DM:strOk "xyz":=by unfold strOk;decide +kernel
theorem vP:("xyz":Str).length=3:=by decide +kernel
theorem HD:∀k:Nat,k < 16->al (.str "abcdefghijklmnop") (.int (k:Int))=some (.str ⟨#[97+k]⟩):=by
 intro k h;have e:∀k:Nat,k < 16->L2.atI ((("abcdefghijklmnop":Str)).cps.toList) (k:Int)=some (97+k):=by decide +kernel
 show (if fZ (("abcdefghijklmnop":Str)).length=true then (L2.atI ((("abcdefghijklmnop":Str)).cps.toList) (k:Int)).map fun c=>P.str ⟨#[c]⟩ else none)=_;rw [e k h,if_pos (by decide +kernel)];rfl
noncomputable def hd (x:Str):Option Nat:=x.cps[0]?
theorem De (c n:Nat) (x:Str):hd (dE ⟨#[c]⟩ (n+1)++x)=some c:=by
 have k:∀(n:Nat) (a:Array Nat),a[0]? = some c->((List.replicate n #[c]).foldl (·++·) a)[0]? = some c:=by
  intro n;induction n with
  | zero=>intro a h;exact h
  | succ n i=>intro a h;rw [dq,gC];refine i _ ?_;have s:0 < a.size:=(Array.getElem?_eq_some_iff.mp h).1;rw [Array.getElem?_append_left s];exact h
 have h:=k n (#[]++#[c]) (by simp);have s:0 < ((List.replicate n #[c]).foldl (·++·) (#[]++#[c])).size:=(Array.getElem?_eq_some_iff.mp h).1;show (((List.replicate (n+1) #[c]).foldl (·++·) #[])++x.cps)[0]? = some c;rw [dq,gC,Array.getElem?_append_left s];exact h
theorem mI {n:Nat} (v:3≤n) (s:List Int) {k:Nat} (r:k < 16):∃x:Str,strOk x/\hd x=some (97+k)/\pureOf (Ph n "_law_name") [cZ s,.int (k:Int)]=some (.str x):=by
 obtain⟨n,rfl⟩:=fR (n:=n) (by first | assumption | lia);obtain⟨c,a,q,e,b⟩:=gY (n:=n+1) (by lia) s (k:=1) (p:=(k:Int)) (by lia) (by lia) (by lia);have u:=HD k r;obtain⟨d,h,f⟩:=zX (k:=a / 4 % 3) DM (by lia) (by rw [vP];lia) (by rw [vP];lia);have t:strOk ⟨#[97+k]⟩:=by show (#[97+k].all fun c=>decide (c < 0x110000))=true;simp;lia
 have m:rk (.str ⟨#[97+k]⟩) (.int (1+a % 4))=some (.str (dE ⟨#[97+k]⟩ ((a % 4).toNat+1))):=by show (if (fZ ((1+a % 4).toNat * 1) && decide ((1+a % 4).natAbs < 1000000))=true then some (P.str (dE ⟨#[97+k]⟩ (1+a % 4).toNat)) else none)=_;rw [if_pos (by rw [Bool.and_eq_true,kK];exact⟨by lia,iq (by lia)⟩),show (1+a % 4).toNat=(a % 4).toNat+1 by lia]
 have z:=xK (x:=dE ⟨#[97+k]⟩ ((a % 4).toNat+1)) (y:=⟨#[d]⟩) (by rw [jN,vQ,vQ];lia);refine⟨dE ⟨#[97+k]⟩ ((a % 4).toNat+1)++⟨#[d]⟩,wO (wN t _) h,De _ _ _,?_⟩;rw [qN,ai];simp [kO,e,b,u,f,m,z]
theorem JW (a:Int):∃r:Int,-1≤r/\r≤5/\L2.atI [P.int 0,.int 0,.int (-1),.int 5] (a % 4)=some (.int r):=by
 have h:a % 4=0\/a % 4=1\/a % 4=2\/a % 4=3:=by lia
 rcases h with h | h | h | h <;> rw [h] <;> simp
theorem G9 (a:Int):∃r:Int,0≤r/\r≤2/\L2.atI [P.int 1,.int 2,.int 0,.int 1] (a % 4)=some (.int r):=by
 have h:a % 4=0\/a % 4=1\/a % 4=2\/a % 4=3:=by lia
 rcases h with h | h | h | h <;> rw [h] <;> simp
noncomputable def lS (v:P):Prop:=∃x lo h a,strOk x/\-1≤lo/\lo≤a/\a≤h/\h≤7/\v=.tup [.str x,.int lo,.int h,.int a]
noncomputable def a8:P->Str
 | .tup (.str s::_)=>s
 | _=>""
noncomputable def tU (v:List P):Prop:=(∀c ∈ v,lS c)/\∀i c,v[i]? = some c->hd (a8 c)=some (99+i)
@[simp] theorem yi (v:List P):toP 9 (.ref 0) [.lst (v.map .p)]=some (.lst v,[.fz (.lst v)]):=ee rfl
theorem cm (s:List P) (v:P):s.map D.p++[.p v]=(s++[v]).map .p:=by simp
theorem cB {Q:P->Prop}{s:List P}{v:P} (h:∀x ∈ s,Q x) (e:Q v):∀x ∈ s++[v],Q x:=fun x a=>(cC.mp a).elim (h x) fun a=>by rw [je.mp a];exact e
theorem sQ {Q:Nat->P->Prop}{s:List P}{v:P} (h:∀i x,s[i]? = some x->Q i x) (n:Q s.length v):∀i x,(s++[v])[i]? = some x->Q i x:=fun i x a=>by
 by_cases e:i < s.length
 .rw [List.getElem?_append_left e] at a;exact h i x a
 .rw [fV (by lia)] at a;have:i-s.length=0:=by
   have:=(List.getElem?_eq_some_iff.mp a).1;simp at this;lia
  rw [this] at a;cases a;rw [show i=s.length by lia];exact n
theorem zY {n:Nat} (hn:4≤n) (t:List Int) {f m:Int} (h0:0≤f) (h1:0≤m) (h2:m≤3):∃r:List P,r.length≤m.toNat/\tU r/\pureOf (Ph n "_law_cells") [cZ t,.int f,.int m]=some (.lst r):=by
 obtain⟨n,rfl⟩:=fR (n:=n) (by first | assumption | lia);obtain⟨c,a,ha,G,I⟩:=gY (n:=n+1) (by lia) t (k:=2+f) (p:=1) (by lia) (by lia) (by lia);have hm:a % (m+1) < m+1:=dW _ (by lia);have T:0≤a % (m+1):=dn _ (by lia);let Inv:Nat->Lc->aD->Prop:=fun i L S=>∃(r:List P) (H F K A:Option D),r.length=i/\tU r/\L=[qp (cZ t),qi f,qi m,some (.ref 0),H,F,K,A]/\S=[.lst (r.map .p)]
 obtain⟨Z,S',e,r,H,F,K,A,j,o,rfl,rfl⟩:=bg (g:=ag 4) (b:=fD (Ph (n+1)) (Ph n)) (Inv:=Inv) (s:=Ev.intsFrom 0 (a % (m+1)).toNat) (k:=0)
  (L:=[qp (cZ t),qi f,qi m,some (.ref 0),none,none,none,none]) (S:=[.lst []]) (fun i v L S W O=>by
   obtain⟨rfl,hi⟩:=ints_get W;obtain⟨r,H,F,K,A,j,o,rfl,rfl⟩:=O;obtain⟨c2,d,hd,C,E⟩:=gY (n:=n+1) (by lia) t (k:=2+f) (p:=2+(i:Int)) (by lia) (by lia) (by lia);obtain⟨x,Y,y,N⟩:=mI (n:=n+1) (by lia) t (k:=2+i) (by lia);obtain⟨lo,l,R,J⟩:=JW d;obtain⟨u,V,B,M⟩:=G9 (d / 4);have z:0 < lo+u-lo+1:=by lia
   have Q:r.length≤1000000:=by lia
   generalize hw:d / 16 % (lo+u-lo+1)=w;have X:0≤w/\w < lo+u-lo+1:=by subst hw;exact⟨dn _ (by lia),dW _ z⟩
   refine⟨_,[qp (cZ t),qi f,qi m,some (.ref 0),qi (i:Int),qi d,qi lo,qi (lo+u)],[.lst ((r++[P.tup [.str x,.int lo,.int (lo+u),.int (lo+w)]]).map D.p)],rfl,?_,_,_,_,_,_,by simp;lia,⟨cB o.1 ⟨x,lo,lo+u,lo+w,Y,l,by lia,by lia,by lia,rfl⟩,sQ o.2 ?_⟩,rfl,rfl⟩
   .rw [<- cm];have q:pureOf (Ph (n+1) "_law_name") [cZ t,.int (2+(i:Int))]=some (.str x):=by rw [<- N];rfl
    simp [fD,C,E,q,J,M,z,c_,Q,hw]
   .show My.hd x=_;rw [y,j];congr 1;lia) ⟨[],none,none,none,none,rfl,⟨fun _ h=>(by cases h),fun _ _ h=>(by cases h)⟩,rfl,rfl⟩
 refine⟨r,by rw [j,bH];lia,o,?_⟩;have U:(a % (m+1)).natAbs < 1000000:=by lia
 have z:0 < m+1:=by lia
 rw [oE,ai];simp [jV,G,I,U,z,e]
@[simp] theorem HX:PyData.strOk "number"=true/\PyData.strOk "name"=true/\PyData.strOk "plus"=true/\PyData.strOk "minus"=true/\PyData.strOk "times"=true/\PyData.strOk "true"=true/\PyData.strOk "not"=true/\PyData.strOk "or"=true/\PyData.strOk "and"=true/\PyData.strOk "is"=true/\PyData.strOk "="=true/\PyData.strOk "!="=true/\PyData.strOk "<"=true/\PyData.strOk "<="=true/\PyData.strOk ">"=true/\PyData.strOk ">="=true/\PyData.strOk "row"=true/\PyData.strOk "heap"=true/\PyData.strOk "ma"=true/\PyData.strOk "mb"=true/\PyData.strOk "who"=true/\PyData.strOk "all"=true/\PyData.strOk "any"=true/\PyData.strOk ""=true/\PyData.strOk "it"=true/\PyData.strOk "weak"=true/\PyData.strOk "strong"=true/\PyData.strOk "step"=true/\PyData.strOk "lose"=true/\PyData.strOk "double"=true:=by decide +kernel
noncomputable def i8 (v:P):Prop:=∃s:Str,PyData.strOk s=true/\v=.str s
theorem i8.ok (h:i8 v) (n:Nat):bR n v=true:=by obtain⟨s,h,rfl⟩:=h;simpa using h
theorem eY {s:List P} (h:∀x ∈ s,i8 x) (n:Nat):bR (n+1) (.lst s)=true:=Aq fun x a=>(h x a).ok n
theorem aZ (h:s≠[]):s.isEmpty=false:=by cases s with | nil=>exact absurd rfl h | cons _ _=>rfl
theorem len_pos (h:s≠[]):0 < s.length:=List.length_pos_iff.mpr h
noncomputable abbrev lh (k:Int):P:=.tup [.str "number",.int k]
noncomputable abbrev l_ (y:P):P:=.tup [.str "name",y]
noncomputable def nG (N:List P) (v:P):Prop:=(∃k,v=lh k)\/∃y ∈ N,v=l_ y\/(∃k,v=.tup [.str "plus",l_ y,lh k])\/(∃k j:Int,0≤k/\k≤2/\v=.tup [.str "minus",.tup [.str "times",l_ y,lh k],lh j])\/v=.tup [.str "minus",lh 1,l_ y]
variable {N:List P}
theorem nG.ok (a:∀x ∈ N,i8 x) (h:nG N v):bR 4 v=true:=by
 rcases h with ⟨k,rfl⟩ | ⟨y,e,h⟩
 .simp
 .have o:∀k,bR k y=true:=fun k=>(a y e).ok k;rcases h with rfl | ⟨k,rfl⟩ | ⟨k,j,_,_,rfl⟩ | rfl <;> simp [o]
theorem um {n:Nat} (m:2≤n) (d:Int) {s:List P} (c:∀x ∈ s,i8 x):∃v,nG s v/\pureOf (Ph n "_law_sum") [.int d,.lst s]=some v:=by
 obtain⟨n,rfl⟩:=fR (n:=n) (by first | assumption | lia);have e:=v9 (eY c 19);by_cases k:s=[]
 .subst k;refine⟨lh (d / 5 % 3),.inl ⟨_,rfl⟩,?_⟩;rw [eQ,ai];simp [dG,e]
 rw [aZ k] at e;have l:=len_pos k;obtain⟨y,f,a⟩:=d_ k (d / 5);have b:d % 5=0\/d % 5=1\/d % 5=2\/d % 5=3\/d % 5=4:=by lia
 rcases b with h | h | h | h | h
 .refine⟨lh (d / 5 % 3),.inl ⟨_,rfl⟩,?_⟩;rw [eQ,ai];simp [dG,e,h]
 .refine⟨l_ y,.inr ⟨y,f,.inl rfl⟩,?_⟩;rw [eQ,ai];simp [dG,e,h,b_,cE,l,a]
 .refine⟨.tup [.str "plus",l_ y,lh (d / 20 % 3)],.inr ⟨y,f,.inr (.inl ⟨_,rfl⟩)⟩,?_⟩;rw [eQ,ai];simp [dG,e,h,b_,cE,l,a]
 .refine⟨.tup [.str "minus",.tup [.str "times",l_ y,lh (d / 20 % 3)],lh (d / 60 % 2)],.inr ⟨y,f,.inr (.inr (.inl ⟨_,_,by lia,by lia,rfl⟩))⟩,?_⟩;rw [eQ,ai];simp [dG,e,h,b_,cE,l,a]
 .refine⟨.tup [.str "minus",lh 1,l_ y],.inr ⟨y,f,.inr (.inr (.inr rfl))⟩,?_⟩;rw [eQ,ai];simp [dG,e,h,b_,cE,l,a]
noncomputable def iM (N:List P) (v:P):Prop:=∃w y s,y ∈ N/\nG N s/\PyData.strOk w=true/\v=.tup [.str "is",.str w,l_ y,s]
noncomputable def nJ (N:List P) (v:P):Prop:=v=.tup [.str "true"]\/iM N v\/(∃p,iM N p/\v=.tup [.str "not",p])\/∃p z,iM N p/\z ∈ N/\v=.tup [.str "or",p,.tup [.str "and",.tup [.str "true"],.tup [.str "is",.str "=",lh 1,l_ z]]]
theorem iM.ok (a:∀x ∈ N,i8 x) (h:iM N v):bR 5 v=true:=by obtain⟨w,y,s,n,e,hw,rfl⟩:=h;have o:∀k,bR k y=true:=fun k=>(a y n).ok k;simp [o,e.ok a,hw]
theorem nJ.ok (a:∀x ∈ N,i8 x) (h:nJ N v):bR 7 v=true:=by
 rcases h with rfl | h | ⟨p,h,rfl⟩ | ⟨p,z,h,e,rfl⟩
 .simp
 .exact br (h.ok a) (by lia)
 .simp [br (h.ok a) (show 5≤6 by lia)]
 .have o:∀k,bR k z=true:=fun k=>(a z e).ok k;simp [br (h.ok a) (show 5≤6 by lia),o]
theorem w6 (a:Int):∃w:Str,PyData.strOk w=true/\L2.atI [P.str "=",.str "!=",.str "<",.str "<=",.str ">",.str ">="] (a % 6)=some (.str w):=by obtain⟨w,hw,e⟩:=u3 (s:=[P.str "=",.str "!=",.str "<",.str "<=",.str ">",.str ">="]) (k:=a % 6) (by lia) (by simp;lia);simp only [bj,dU,dS] at hw;rcases hw with rfl | rfl | rfl | rfl | rfl | rfl <;> exact⟨_,by simp,e⟩
theorem BP {n:Nat} (j:3≤n) (d:Int) {s:List P} (m:∀x ∈ s,i8 x):∃v,nJ s v/\pureOf (Ph n "_law_condition") [.int d,.lst s]=some v:=by
 obtain⟨n,rfl⟩:=fR (n:=n) (by first | assumption | lia);have e:=v9 (eY m 19);by_cases a:s=[]
 .subst a;refine⟨.tup [.str "true"],.inl rfl,?_⟩;rw [cA,ai];simp [b0,e]
 rw [aZ a] at e;have l:=len_pos a;obtain⟨y,g,c⟩:=d_ a (d / 30);obtain⟨z,i,r⟩:=u3 (s:=s) (k:=0) (by lia) (by lia);obtain⟨w,hw,b⟩:=w6 (d / 5);obtain⟨v,u,f⟩:=um (n:=n+1) (by lia) (d / 90) m;have p:iM s (.tup [.str "is",.str w,l_ y,v]):=⟨w,y,v,g,u,hw,rfl⟩;by_cases t:d % 5 < 2
 .refine⟨.tup [.str "true"],.inl rfl,?_⟩;rw [cA,ai];simp [b0,e,t]
 have q:d % 5=2\/d % 5=3\/d % 5=4:=by lia
 rcases q with h | h | h
 .refine⟨_,.inr (.inr (.inl ⟨_,p,rfl⟩)),?_⟩;rw [cA,ai];simp [b0,e,h,b_,cE,l,c,b,f]
 .refine⟨_,.inr (.inr (.inr ⟨_,z,p,i,rfl⟩)),?_⟩;rw [cA,ai];simp [b0,e,h,b_,cE,l,c,r,b,f]
 .refine⟨_,.inr (.inl p),?_⟩;rw [cA,ai];simp [b0,e,h,b_,cE,l,c,b,f]
noncomputable def e_ (v:P):Prop:=∃(a b k:Str) (c:Int) (d e:Bool),PyData.strOk a=true/\PyData.strOk b=true/\(k="row"\/k="heap")/\1≤c/\c≤3/\v=.tup [.str a,.str b,.str k,.int c,.bl d,.bl e]
noncomputable def rA:P->Str
 | .tup (.str a::_)=>a
 | _=>""
noncomputable def rB:P->Str
 | .tup (_::.str b::_)=>b
 | _=>""
noncomputable def RD (r h:P):Prop:=¬(rA r=rA h/\rB r=rB h)
noncomputable def CC (F:List P) (v:List P):Prop:=v.length≤8/\(∀r ∈ v,e_ r/\.str (rA r) ∈ F/\.str (rB r) ∈ F)/\v.Pairwise RD
noncomputable def JG (F:List P) (v:List P) (i j:Nat):Prop:=∀r ∈ v,∃h x,F[h]? = some (.str (rA r))/\F[x]? = some (.str (rB r))/\(h < i\/(h=i/\x < j))
theorem Cc {a b:P} (d:Int):∃w,(w=a\/w=b)/\L2.atI [a,b] (d % 2)=some w:=by obtain⟨w,hw,e⟩:=u3 (s:=[a,b]) (k:=d % 2) (by lia) (by simp;lia);exact⟨w,by simpa using hw,e⟩
theorem dg {s:List P}{i:Nat}{v:P} (h:(aR 0 s)[i]? = some v):∃x,s[i]? = some x/\v=.tup [.int (i:Int),x]:=by obtain⟨x,a,e⟩:=jG h;exact⟨x,a,by rw [e];simp⟩
theorem aW {a:Type}{s:List a}{i:Nat}{x:a} (h:s[i]? = some x):i < s.length:=(List.getElem?_eq_some_iff.mp h).1
theorem yA {n:Nat} (hn:3≤n) (A:List Int) {s:List P} (hx:∀x ∈ s,i8 x) (T:∀(i j:Nat) x,s[i]? = some x->s[j]? = some x->i=j) (hl:s.length≤4) {m:Int} (h1:0 < m) (h3:m≤3):∃f:List P,CC s f/\pureOf (Ph n "_law_roads") [cZ A,.lst s,.int m]=some (.lst f):=by
 obtain⟨n,rfl⟩:=fR (n:=n) (by first | assumption | lia);let I:Nat->Option D->Option D->Nat->Lc->aD->Prop:=fun ii k B j L S=>∃(f:List P) (J M N C:Option D),(CC s f/\JG s f ii j)/\L=[qp (cZ A),ql s,qi m,some (.ref 0),k,B,J,M,N,C]/\S=[.lst (f.map .p)]
 let Inv:Nat->Lc->aD->Prop:=fun i L S=>∃k B,I i k B 0 L S
 obtain⟨L',S',e,k0,one0,f,J,M,N,C,⟨H,_⟩,rfl,rfl⟩:=bg (g:=aI [ag 4,ag 5]) (b:=fC (Ph (n+1)) (Ph n)) (Inv:=Inv) (s:=aR 0 s) (k:=0)
  (L:=[qp (cZ A),ql s,qi m,some (.ref 0),none,none,none,none,none,none]) (S:=[.lst []]) (fun i v L S hv Z=>by
   obtain⟨x,q,rfl⟩:=dg hv;have hi:=aW q;have V:=bF q;obtain⟨a,ha,rfl⟩:=hx x V;obtain⟨_,_,f,J,M,N,C,H,rfl,rfl⟩:=Z;rw [eF] at H ⊢;obtain⟨L',S',e,hI2⟩:=bg (g:=aI [ag 6,ag 7]) (b:=cX (Ph (n+1)) (Ph n)) (Inv:=I i (qi (i:Int)) (qs a)) (s:=aR 0 s) (k:=0)
    (L:=[qp (cZ A),ql s,qi m,some (.ref 0),qi (i:Int),qs a,J,M,N,C]) (S:=[.lst (f.map .p)]) (fun j v L S hv Z=>by
     obtain⟨y,u,rfl⟩:=dg hv;have hj:=aW u;have W:=bF u;obtain⟨b,hb,rfl⟩:=hx y W;obtain⟨f,J,M,N,C,⟨H,t⟩,rfl,rfl⟩:=Z;rw [eF] at t ⊢;obtain⟨c,d,hd,O,Q⟩:=gY (n:=n+1) (by lia) A (k:=4) (p:=30+4 * (i:Int)+(j:Int)) (by lia) (by lia) (by lia);have m4:fq 4 (i:Int)=true:=bw (by decide) (by lia);by_cases hg:0 < d % 4/\f.length < 8
     .obtain⟨w,hw,X⟩:∃w:Str,(w="row"\/w="heap")/\L2.atI [P.str "row",.str "heap"] (d / 4 % 2)=some (.str w):=by
       obtain⟨w,hw,X⟩:=Cc (a:=.str "row") (b:=.str "heap") (d / 4);rcases hw with rfl | rfl
       .exact⟨_,.inl rfl,X⟩
       .exact⟨_,.inr rfl,X⟩
      have U:f.length≤1000000:=by lia
      have c0:0≤d / 8 % m:=dn _ (by lia);have c1:d / 8 % m < m:=dW _ h1;refine⟨_,[qp (cZ A),ql s,qi m,some (.ref 0),qi (i:Int),qs a,qi (j:Int),qs b,qi d,qs w],[.lst ((f++[P.tup [.str a,.str b,.str w,.int (1+d / 8 % m),.bl (decide (d / 24 % 3=1)),.bl (decide (d / 72 % 3=1))]]).map D.p)],rfl,?_,_,_,_,_,_,⟨⟨by simp;lia,cB H.2.1 ⟨⟨a,b,w,_,_,_,ha,hb,hw,by lia,by lia,rfl⟩,V,W⟩,List.pairwise_append.mpr ⟨H.2.2,List.pairwise_singleton _ _,fun r K z hz=>?_⟩⟩,cB (fun r K=>?_) ⟨i,j,q,u,.inr ⟨rfl,by lia⟩⟩⟩,rfl,rfl⟩;rotate_left
      .rw [je.mp hz];rintro ⟨O,Q⟩;obtain⟨E,G,l,o,Y⟩:=t r K;rw [O] at l;rw [Q] at o;have:=T _ _ _ l q
       have:=T _ _ _ o u;lia
      .obtain⟨E,G,l,o,Y⟩:=t r K;exact⟨E,G,l,o,by lia⟩
      rw [<- cm];have F:(f.length:Int) < 8:=by lia
      simp [cX,O,Q,m4,hg.1,b_,F,X,h1,c_,U]
     .refine⟨_,[qp (cZ A),ql s,qi m,some (.ref 0),qi (i:Int),qs a,qi (j:Int),qs b,qi d,C],[.lst (f.map D.p)],rfl,?_,f,_,_,_,_,⟨H,fun r K=>?_⟩,rfl,rfl⟩;rotate_left
      .obtain⟨E,G,l,o,Y⟩:=t r K;exact⟨E,G,l,o,by lia⟩
      by_cases R:0 < d % 4
      .have F:¬(f.length:Int) < 8:=by lia
       simp [cX,O,Q,m4,R,b_,F]
      .simp [cX,O,Q,m4,R,b_]) ⟨f,J,M,N,C,H,rfl,rfl⟩
   obtain⟨vs',z6,z7,z8,z9,⟨hi1,hi2⟩,hi3,hi4⟩:=hI2;exact⟨_,L',S',rfl,by simpa [fC] using e,_,_,vs',z6,z7,z8,z9,⟨hi1,fun r K=>by obtain⟨E,G,l,o,Y⟩:=hi2 r K;exact⟨E,G,l,o,by lia⟩⟩,hi3,hi4⟩) ⟨none,none,[],none,none,none,none,⟨⟨by simp,fun _ h=>(by cases h),List.Pairwise.nil⟩,fun _ h=>(by cases h)⟩,rfl,rfl⟩
 refine⟨f,H,?_⟩;rw [oC,ai];simp [jT,e]
end My
namespace My
open PySem L2 Ev
variable {s:Str}{l:List P}
theorem uv (H:∀c ∈ l,e_ c) (L:Lc) (j k:Nat) (t:j < L.length) (h:k≠j) (z:L[k]? = some (qs s)) (S:aD) :
  ∃f,bb (ag j) (bV (aA dC (eV (ab al (vv j) (vi 0))) (aa k))) (ab al (vv j) (vi 1)) l L S=some (f,S)/\(∀y ∈ f,i8 y/\∃r ∈ l,rA r=s/\y=.str (rB r))/\f.length≤l.length:=by
 refine lD (Inv:=fun m=>∃d,m=L.set j d) (fun v p m u=>?_) ⟨L[j],(iy t).symm⟩;obtain⟨d,rfl⟩:=u;obtain⟨a,b,n,c,x,e,F,i,o,_,_,rfl⟩:=H v p;have g:((L.set j d).set j (qp (.tup [.str a,.str b,.str n,.int c,.bl x,.bl e])))[j]? = some (qp (.tup [.str a,.str b,.str n,.int c,.bl x,.bl e])):=by rw [dP (by simpa using t)]
 have w:((L.set j d).set j (qp (.tup [.str a,.str b,.str n,.int c,.bl x,.bl e])))[k]? = some (qs s):=by rw [a7 (Ne.symm h),a7 (Ne.symm h)];exact z
 exact⟨_,decide (a=s),rfl,⟨_,List.set_set ..⟩,by simp [-List.set_set,g,w],fun q=>⟨.str b,by simp [-List.set_set,g],⟨b,i,rfl⟩,_,p,of_decide_eq_true q,rfl⟩⟩
theorem wR (H:∀c ∈ l,e_ c) (L:Lc) (j k:Nat) (t:j < L.length) (h:k≠j) (z:L[k]? = some (qs s)) (S:aD) :
  ∃f,bb (ag j) (bV (aA dC (eV (ab al (vv j) (vi 1))) (aa k))) (ab al (vv j) (vi 0)) l L S=some (f,S)/\(∀y ∈ f,i8 y/\∃r ∈ l,rB r=s/\y=.str (rA r))/\f.length≤l.length:=by
 refine lD (Inv:=fun m=>∃d,m=L.set j d) (fun v p m u=>?_) ⟨L[j],(iy t).symm⟩;obtain⟨d,rfl⟩:=u;obtain⟨a,b,n,c,x,e,i,F,o,_,_,rfl⟩:=H v p;have g:((L.set j d).set j (qp (.tup [.str a,.str b,.str n,.int c,.bl x,.bl e])))[j]? = some (qp (.tup [.str a,.str b,.str n,.int c,.bl x,.bl e])):=by rw [dP (by simpa using t)]
 have w:((L.set j d).set j (qp (.tup [.str a,.str b,.str n,.int c,.bl x,.bl e])))[k]? = some (qs s):=by rw [a7 (Ne.symm h),a7 (Ne.symm h)];exact z
 exact⟨_,decide (b=s),rfl,⟨_,List.set_set ..⟩,by simp [-List.set_set,g,w],fun q=>⟨.str a,by simp [-List.set_set,g],⟨a,i,rfl⟩,_,p,of_decide_eq_true q,rfl⟩⟩
theorem sj (h:l.length≤8):l.length≤1000000:=by lia
theorem nv (d:Int):∃w:Str,(w=a\/w=b)/\L2.atI [P.str a,.str b] (d % 2)=some (.str w):=by
 obtain⟨w,hw,e⟩:=Cc (a:=.str a) (b:=.str b) d;rcases hw with rfl | rfl
 .exact⟨_,.inl rfl,e⟩
 .exact⟨_,.inr rfl,e⟩
noncomputable def j6 (s:Str) (l u N:List P) (v:P):Prop:=∃(m:Str) (t:P) (w n:Str),PyData.strOk m=true/\PyData.strOk n=true/\nG N t/\((w="who"/\P.str n ∈ u)\/((w="all"\/w="any")/\∃r ∈ l,rA r=s/\n=rB r))/\v=.tup [.str m,t,.str w,.str n]
variable {u:List P}
theorem j6.ok (a:∀x ∈ N,i8 x) (h:j6 s l u N v):bR 5 v=true:=by
 obtain⟨m,t,w,f,e,n,k,hw,rfl⟩:=h;have hw:PyData.strOk w=true:=by rcases hw with ⟨rfl,_⟩ | ⟨rfl | rfl,_⟩ <;> simp
 simp [e,n,hw,k.ok a]
variable {n:Nat}
theorem yr (hn:3≤n) (d:Int) (hnm:∀x ∈ nm,i8 x) (hw:∀x ∈ u,i8 x) (hr:∀c ∈ l,e_ c) (hrl:l.length≤8) {m:Int} (h1:0≤m) (h2:m≤3) :
  ∃t:List P,t.length≤3/\(∀c ∈ t,j6 s l u nm c)/\pureOf (Ph n "_law_sends") [.int d,.str s,.lst nm,.lst u,.lst l,.int m]=some (.lst t):=by
 obtain⟨n,rfl⟩:=fR (n:=n) (by first | assumption | lia);have hm:d % (m+1) < m+1:=dW _ (by lia);have hm0:0≤d % (m+1):=dn _ (by lia);obtain⟨gs,eg,X,hgl⟩:=uv (s:=s) hr [qi d,qs s,ql nm,ql u,ql l,qi m,none,none,none,none,none,none,none] 12 1 (by simp) (by lia) rfl [];have W:=kB (eY hw 19);have R:=kB (eY (fun x hx=>(X x hx).1) 19);let F:Option D->Option D->Option D->Option D->Lc:=fun T U q j=>[qi d,qs s,ql nm,ql u,ql l,qi m,ql gs,some (.ref 0),T,U,q,j]
 let Inv:Nat->Lc->aD->Prop:=fun i L S=>∃(t:List P) (T U q j:Option D),t.length≤i/\(∀c ∈ t,j6 s l u nm c)/\L=F T U q j/\S=[.lst (t.map .p)]
 obtain⟨L',S',e,t,T,U,q,j,hc,Z,rfl,rfl⟩:=bg (g:=ag 8) (b:=bJ (Ph (n+1)) (Ph n)) (Inv:=Inv) (s:=Ev.intsFrom 0 (d % (m+1)).toNat) (k:=0)
  (L:=F none none none none) (S:=[.lst []]) (fun i v L S hv hI=>by
   obtain⟨rfl,hi⟩:=ints_get hv;obtain⟨t,T,U,q,j,hc,Z,rfl,rfl⟩:=hI;simp only [c8];obtain⟨dv,A,y⟩:∃z:Int,(0 < z/\z < 1152921504606846976)/\L2.atI [P.int 4,.int 1000,.int 100000] (i:Int)=some (.int z):=by
    have:i=0\/i=1\/i=2:=by lia
    rcases this with rfl | rfl | rfl
    .exact⟨4,by decide,by simp⟩
    .exact⟨1000,by decide,by simp⟩
    .exact⟨100000,by decide,by simp⟩
   generalize C:d / dv=o;obtain⟨tr,htr,K⟩:=um (n:=n+1) (by lia) (o / 12 % 300) hnm;obtain⟨mk,hmk,H⟩:=nv (a:="ma") (b:="mb") o;have omk:PyData.strOk mk=true:=by rcases hmk with rfl | rfl <;> simp
   have B:t.length≤1000000:=by lia
   by_cases O:u≠[]/\o / 2 % 3=1
   .obtain⟨w,E,ew⟩:=d_ O.1 (o / 50);obtain⟨w,M,rfl⟩:=hw w E;have hl:=len_pos O.1;refine⟨_,F (qi (i:Int)) (qi o) (qp tr) (qs mk),[.lst ((t++[P.tup [.str mk,tr,.str "who",.str w]]).map D.p)],rfl,?_,_,_,_,_,_,by simp;lia,cB Z ⟨mk,tr,_,w,omk,M,htr,.inl ⟨rfl,E⟩,rfl⟩,rfl,rfl⟩;rw [<- cm];rw [aZ O.1] at W;simp [bJ,F,y,A,C,K,H,W,O.2,b_,cE,hl,ew,c_,B]
   .by_cases Q:gs=[]
    .refine⟨_,F (qi (i:Int)) (qi o) (qp tr) (qs mk),[.lst (t.map D.p)],rfl,?_,t,_,_,_,_,by lia,Z,rfl,rfl⟩;rw [Q] at R;by_cases p:u=[]
     .rw [p] at W;simp [bJ,F,y,A,C,K,H,W,R,Q,p]
     .rw [aZ p] at W;have h3:¬o / 2 % 3=1:=fun z=>O ⟨p,z⟩;simp [bJ,F,y,A,C,K,H,W,R,Q,h3]
    .obtain⟨w,E,ew⟩:=d_ Q (o / 3);obtain⟨⟨w,M,rfl⟩,r,hrm,hra,N⟩:=X w E;have N:w=rB r:=by cases N;rfl
     have hl:=len_pos Q;rw [aZ Q] at R;have V:∀G:Str,(G="all"\/G="any")->(∀L S,(ab al (aS (v2 (vt "all") (vt "any"))) (ab dh (ab aV (ab aC (vv 9) (vi 6)) (vi 2)) (af bB (v1 (ab Ar (vv 8) (vi 2)))))) (F (qi (i:Int)) (qi o) L S) [.lst (t.map .p)]=some (.str G,[.lst (t.map .p)]))->∃L1 L2 S2,ag 8 (.int (i:Int)) (F T U q j)=some L1/\bJ (Ph (n+1)) (Ph n) L1 [.lst (t.map .p)]=some (.nx,L2,S2)/\Inv (0+i+1) L2 S2:=fun G I f=>by
      have f:=f (qp tr) (qs mk);refine⟨_,F (qi (i:Int)) (qi o) (qp tr) (qs mk),[.lst ((t++[P.tup [.str mk,tr,.str G,.str w]]).map D.p)],rfl,?_,_,_,_,_,_,by simp;lia,cB Z ⟨mk,tr,G,w,omk,M,htr,.inr ⟨I,r,hrm,hra,N⟩,rfl⟩,rfl,rfl⟩;rw [<- cm];unfold bJ;generalize (ab al (aS (v2 (vt "all") (vt "any"))) (ab dh (ab aV (ab aC (vv 9) (vi 6)) (vi 2)) (af bB (v1 (ab Ar (vv 8) (vi 2))))))=fa at f ⊢;simp only [F] at f ⊢;by_cases p:u=[]
      .rw [p] at W f ⊢;simp [y,A,C,K,H,W,R,b_,cE,hl,ew,c_,B,f]
      .rw [aZ p] at W;have h3:¬o / 2 % 3=1:=fun z=>O ⟨p,z⟩;simp [y,A,C,K,H,W,R,h3,b_,cE,hl,ew,c_,B,f]
     by_cases Y:i < 2
     .have J:(i:Int) < 2:=by lia
      obtain⟨G,I,f⟩:=nv (a:="all") (b:="any") (o / 6);have mo:fq (o / 6 % 2) 1=true:=bw (by lia) (by decide);exact V G I fun L S=>by simp [F,Y,J,bB,iZ,mo,f]
     .have J:¬(i:Int) < 2:=by lia
      have mo:fq (o / 6 % 2) 0=true:=bw (by lia) (by decide);exact V "all" (.inl rfl) fun L S=>by simp [F,Y,J,bB,iZ,mo]) ⟨[],none,none,none,none,by simp,fun _ h=>(by cases h),rfl,rfl⟩
 refine⟨t,by rw [bH] at hc;lia,Z,?_⟩;have hq:(d % (m+1)).natAbs < 1000000:=by lia
 have hz:0 < m+1:=by lia
 rw [oB,ai];simp [jS,aX,sj hrl,kj,eg,hq,hz];simp [F] at e;simp [e]
@[simp] theorem GJ (L:Lc) (S:aD):dw L S=some (none,S):=rfl
@[simp] theorem GI (a:EV) (L:Lc) (S:aD):de a L S=aF (a L S) fun v h=>match v with | .int i=>some (some i,h) | _=>none:=rfl
@[simp] theorem Hq (x:List P) (lo h:Option Int):zV (.lst x) lo h=some (.lst (cut x lo h)):=rfl
@[simp] theorem Ho (x:List P) (lo h:Option Int):zV (.tup x) lo h=some (.tup (cut x lo h)):=rfl
theorem mP:(∀x ∈ cut h lo i,x ∈ h)/\(cut h lo i).length≤h.length:=by
 unfold cut;refine⟨fun x a=>?_,?_⟩
 .first
   | exact mZ (qc a)
   | exact qc (mZ a)
 .simp only [iu,pZ];lia
noncomputable def jr (s:Str) (l u:List P) (v:P):Prop:=v=.non\/∃m a i w,PyData.strOk m=true/\PyData.strOk a=true/\PyData.strOk i=true/\PyData.strOk w=true/\(∃r ∈ l,rB r=s/\a=rA r)/\(w=""\/P.str w ∈ u)/\v=.tup [.str m,.str a,.str i,.str w]
noncomputable def more:P->List P
 | .non=>[]
 | _=>[.str "it"]
theorem jr.ok (h:jr s l u v):bR 2 v=true:=by
 rcases h with rfl | ⟨m,a,i,w,x,e,n,k,_,_,rfl⟩
 .rfl
 .simp [x,e,n,k]
theorem step_if (ψ ι:Str->GF) {d0:Int} (A:∀x ∈ m,i8 x) (hw:∀x ∈ u,i8 x) (hs:∀x ∈ j,i8 x/\∃r ∈ l,rB r=s/\x=.str (rA r)) :
  ∃tk f Y Z,jr s l u tk/\(∀x ∈ f,i8 x)/\f.length≤m.length /\
   aJ ψ ι [ql (.int d0::ds),qs s,qp rooms,qp cells,ql u,ql l,ql m,ql j,qp .non,ql m,ql [],none,none,none,none,none,none,none] []
    = some (.nx,[ql (.int d0::ds),qs s,qp rooms,qp cells,ql u,ql l,ql m,ql j,qp tk,ql f,ql (more tk),Y,Z,none,none,none,none,none],[]):=by
 have S:=kB (eY (fun x K=>(hs x K).1) 19);have N:=kB (eY A 19);have W:=kB (eY hw 19);by_cases c:j≠[]/\d0 % 3=1
 .rw [aZ c.1] at S;obtain⟨s1,Q,d⟩:=d_ c.1 (d0 / 24);have n:=len_pos c.1;obtain⟨mk,J,k⟩:=nv (a:="ma") (b:="mb") (d0 / 12);obtain⟨⟨sn,V,rfl⟩,r,O,M,o⟩:=hs s1 Q;have o:sn=rA r:=by cases o;rfl
  have U:PyData.strOk mk=true:=by rcases J with rfl | rfl <;> simp
  have H:∃i f,PyData.strOk i=true/\(∀x ∈ f,i8 x)/\f.length≤m.length/\((m≠[]/\d0 / 3 % 2=1/\L2.atI m (-1)=some (.str i)/\f=cut m none (some (-1)))\/((m=[]\/¬d0 / 3 % 2=1)/\i=""/\f=m)):=by
   by_cases v:m≠[]/\d0 / 3 % 2=1
   .obtain⟨x,K,G⟩:=atI_last v.1;obtain⟨x,X,rfl⟩:=A x K;exact⟨x,_,X,fun y hy=>A y (mP.1 y hy),mP.2,.inl ⟨v.1,v.2,G,rfl⟩⟩
   .refine⟨_,_,by simp,A,Nat.le_refl _,.inr ⟨?_,rfl,rfl⟩⟩;by_cases z:m=[]
    .exact .inl z
    .exact .inr fun q=>v ⟨z,q⟩
  have F:∃w,PyData.strOk w=true/\((u≠[]/\d0 / 6 % 2=1/\P.str w ∈ u/\L2.atI u (d0 / 200 % (u.length:Int))=some (.str w))\/((u=[]\/¬d0 / 6 % 2=1)/\w="")):=by
   by_cases v:u≠[]/\d0 / 6 % 2=1
   .obtain⟨x,K,G⟩:=d_ v.1 (d0 / 200);obtain⟨x,X,rfl⟩:=hw x K;exact⟨x,X,.inl ⟨v.1,v.2,K,G⟩⟩
   .refine⟨_,by simp,.inr ⟨?_,rfl⟩⟩;by_cases z:u=[]
    .exact .inl z
    .exact .inr fun q=>v ⟨z,q⟩
  obtain⟨i,f,hi,hf,I,p1⟩:=H;obtain⟨w,B,E⟩:=F;refine⟨.tup [.str mk,.str sn,.str i,.str w],f,qs i,qs w,.inr ⟨mk,sn,i,w,U,V,hi,B,⟨r,O,M,o⟩,?_,rfl⟩,hf,I,?_⟩
  .rcases E with ⟨_,_,h,_⟩ | ⟨_,h⟩
   .exact .inr h
   .exact .inl h
  rcases p1 with ⟨g,R,T,rfl⟩ | ⟨g,rfl,rfl⟩
  .rw [aZ g] at N;rcases E with ⟨e,C,_,D⟩ | ⟨e,rfl⟩
   .rw [aZ e] at W;have t:=len_pos e;simp [aJ,more,S,c.2,N,R,T,W,C,D,b_,cE,n,t,d,k]
   .rcases e with e | e
    .subst e;simp [aJ,more,S,c.2,N,R,T,W,b_,cE,n,d,k]
    .cases p:u.isEmpty <;> (rw [p] at W;simp [aJ,more,S,c.2,N,R,T,W,e,b_,cE,n,d,k])
  .rcases g with g | g
   .subst g;rcases E with ⟨e,C,_,D⟩ | ⟨e,rfl⟩
    .rw [aZ e] at W;have t:=len_pos e;simp [aJ,more,S,c.2,N,W,C,D,b_,cE,n,t,d,k]
    .rcases e with e | e
     .subst e;simp [aJ,more,S,c.2,N,W,b_,cE,n,d,k]
     .cases p:u.isEmpty <;> (rw [p] at W;simp [aJ,more,S,c.2,N,W,e,b_,cE,n,d,k])
   .cases L:f.isEmpty <;> rw [L] at N <;> (
    rcases E with ⟨e,C,_,D⟩ | ⟨e,rfl⟩
    .rw [aZ e] at W;have t:=len_pos e;simp [aJ,more,S,c.2,N,g,W,C,D,b_,cE,n,t,d,k]
    .rcases e with e | e
     .subst e;simp [aJ,more,S,c.2,N,g,W,b_,cE,n,d,k]
     .cases p:u.isEmpty <;> (rw [p] at W;simp [aJ,more,S,c.2,N,g,W,e,b_,cE,n,d,k]))
 .refine⟨.non,m,none,none,.inl rfl,A,Nat.le_refl _,?_⟩;by_cases z:j=[]
  .subst z;simp [aJ,more,S]
  .have z2:¬d0 % 3=1:=fun q=>c ⟨z,q⟩;rw [aZ z] at S;simp [aJ,more,S,z2]
noncomputable def oq (s:List P):List P:=s.map fun c=>.str (a8 c)
theorem ny (e:∀c ∈ a,lS c):∀x ∈ oq a,i8 x:=fun x s=>by obtain⟨c,h,rfl⟩:=bA.mp s;obtain⟨x,_,_,_,o,_,_,_,_,rfl⟩:=e c h;exact⟨x,o,rfl⟩
theorem pu (m:∀c ∈ h,lS c) (L:Lc) (j:Nat) (n:j < L.length) (S:aD) :
  bb (ag j) fm (ab al (vv j) (vi 0)) h L S=some (oq h,S):=by
 have:=bI (g:=ag j) (c:=fm) (e:=ab al (vv j) (vi 0)) (S:=S) (p:=fun _=>true) (f:=fun c=>.str (a8 c)) (s:=h) (L:=L) (Inv:=fun s=>∃d,s=L.set j d) (fun v r s b=>by
  obtain⟨d,rfl⟩:=b;obtain⟨x,lo,i,a,t,_,_,_,_,rfl⟩:=m v r;have k:((L.set j d).set j (qp (.tup [.str x,.int lo,.int i,.int a])))[j]? = some (qp (.tup [.str x,.int lo,.int i,.int a])):=by rw [dP (by simpa using n)]
  exact⟨_,rfl,⟨_,List.set_set ..⟩,rfl,fun _=>by simp [-List.set_set,k,a8]⟩) ⟨L[j],(iy n).symm⟩
 rw [this,mX.mpr fun _ _=>rfl];rfl
noncomputable def Cp (N:List P) (c:P):Prop:=∃x t,PyData.strOk x=true/\nG N t/\c=.tup [.str x,t]
structure Stp (s:Str) (rooms cells whos rs:List P) (rm when tk:P) (chg sn:List P) (rm2:P):Prop where
 h1:rm ∈ rooms
 h2:rm2 ∈ rooms
 wh:nJ (oq cells) when
 htk:jr s rs whos tk
 cl:chg.length≤3
 ch:∀c ∈ chg,Cp (oq cells++more tk) c
 sl:sn.length≤3
 hsn:∀c ∈ sn,j6 s rs whos (oq cells++more tk) c
theorem mJ (v:P):∀x ∈ more v,i8 x:=fun x h=>by
 cases v with
 | non=>cases h
 | _=>exact⟨"it",by simp,by simpa [more] using h⟩
theorem y9 (v:P):(more v).length≤1:=by cases v <;> simp [more]
theorem AN (hn:4≤n) (C K B w:Int) (hrm:∀x ∈ r,i8 x) (A:r≠[]) (V:∀c ∈ e,lS c) (hcl:e.length≤3) (hw:∀x ∈ u,i8 x) (hr:∀c ∈ l,e_ c) (J:l.length≤8) :
  ∃rm R o p Q N,Stp s r e u l rm R o p Q N/\pureOf (Ph n "_law_step") [.lst [.int C,.int K,.int B,.int w],.str s,.lst r,.lst e,.lst u,.lst l]=some (.tup [rm,R,o,.lst p,.lst Q,N]):=by
 obtain⟨n,rfl⟩:=fR (n:=n) (by first | assumption | lia);have e1:=pu V [ql [.int C,.int K,.int B,.int w],qs s,ql r,ql e,ql u,ql l,none,none,none,none,none,none,none,none,none,none,none,none,none] 18 (by simp) [];have d:=ny V;have hnl:(oq e).length=e.length:=by simp [oq]
 generalize U:oq e=f at e1 d hnl;obtain⟨snd,e2,hsn,_⟩:=wR (s:=s) hr [ql [.int C,.int K,.int B,.int w],qs s,ql r,ql e,ql u,ql l,ql f,none,none,none,none,none,none,none,none,none,none,none,none] 18 1 (by simp) (by lia) rfl [];obtain⟨o,fr,q11,q12,htk,Y,hfl,e3⟩:=step_if (Ph (n+1)) (Ph n) (d0:=C) (ds:=[.int K,.int B,.int w]) (rooms:=.lst r) (cells:=.lst e) d hw hsn;have Z:=y9 o;have I:=mJ o;generalize hM:more o=O at e3 Z I;have y:∀x ∈ f++O,i8 x:=fun x hx=>(cC.mp hx).elim (d x) (I x)
 have j:f.length+O.length≤1000000:=by lia
 have W:e.length≤1000000:=by lia
 let F:Option D->Option D->Lc:=fun q t=>[ql [.int C,.int K,.int B,.int w],qs s,ql r,ql e,ql u,ql l,ql f,ql snd,qp o,ql fr,ql O,q11,q12,some (.ref 0),q,t,none,none]
 let Inv:Nat->Lc->aD->Prop:=fun i L S=>∃(H:List P) (q t:Option D),H.length≤i/\(∀c ∈ H,Cp (f++O) c)/\L=F q t/\S=[.lst (H.map .p)]
 obtain⟨L',S',e4,p,q,t,E,X,rfl,rfl⟩:=bg (g:=aI [ag 14,ag 15]) (b:=eE (Ph (n+1)) (Ph n)) (Inv:=Inv) (s:=aR 0 fr) (k:=0) (L:=F none none) (S:=[.lst []]) (fun i v L S hv hI=>by
   obtain⟨x,M,rfl⟩:=dg hv;have hi:=aW M;obtain⟨x,ox,rfl⟩:=Y x (bF M);obtain⟨H,q,t,V,ho,rfl,rfl⟩:=hI;have G:H.length≤1000000:=by lia
   obtain⟨a,b,ha,hb,ea,eb⟩:∃a b:Int,(0 < a/\a < 1152921504606846976)/\(0 < b/\b < 1152921504606846976)/\L2.atI [P.int 1,.int 1000,.int 1000000] (i:Int)=some (.int a)/\L2.atI [P.int 2,.int 2000,.int 2000000] (i:Int)=some (.int b):=by
    have:i=0\/i=1\/i=2:=by lia
    rcases this with rfl | rfl | rfl
    .exact⟨1,2,by decide,by decide,by simp,by simp⟩
    .exact⟨1000,2000,by decide,by decide,by simp,by simp⟩
    .exact⟨1000000,2000000,by decide,by decide,by simp,by simp⟩
   by_cases h:K / a % 2=1
   .obtain⟨tr,htr,T⟩:=um (n:=n+1) (by lia) (K / b % 300) y;refine⟨_,F (qi (i:Int)) (qs x),[.lst ((H++[P.tup [.str x,tr]]).map D.p)],rfl,?_,_,_,_,by simp;lia,cB ho ⟨x,tr,ox,htr,rfl⟩,rfl,rfl⟩;rw [<- cm];simp [eE,F,ea,eb,ha,hb,h,j,T,c_,G]
   .refine⟨_,F (qi (i:Int)) (qs x),[.lst (H.map D.p)],rfl,?_,H,_,_,by lia,ho,rfl,rfl⟩;simp [eE,F,ea,ha,h]) ⟨[],none,none,by simp,fun _ h=>(by cases h),rfl,rfl⟩
 rw [cf] at E;obtain⟨z,hz0,hz1,hz2⟩:∃z:Int,0≤z/\z≤1/\bB [.bl (decide (3 < (r.length:Int)))]=some (.int z):=by
  by_cases h:3 < (r.length:Int)
  .exact⟨1,by decide,by decide,by simp [h,bB,iZ]⟩
  .exact⟨0,by decide,by decide,by simp [h,bB,iZ]⟩
 obtain⟨Q,hsl,hsd,e5⟩:=yr (n:=n+1) (by lia) B (s:=s) y hw hr J (m:=2+z) (by lia) (by lia);obtain⟨R,hwh,e6⟩:=BP (n:=n+1) (by lia) (w % 27000) d;obtain⟨r1,hr1,e7⟩:=d_ A (w / 27000);obtain⟨r2,hr2,e8⟩:=d_ A (w / 216000);have hl:=len_pos A;refine⟨r1,R,o,p,Q,r2,⟨hr1,hr2,U ▸ hwh,htk,by lia,U ▸ hM ▸ X,hsl,U ▸ hM ▸ hsd⟩,?_⟩;rw [qL,ai];simp only [F] at e4;simp [kN,aX,W,sj J,kj,e1,e2,hU,e3,e4,j,b_,cE,hz2,e5,e6,hl,e7,e8,ee]
noncomputable def qI (s:Str) (r c u l:List P) (v:P):Prop:=∃x a w t h n m,PyData.strOk x=true/\Stp s r c u l a w t h n m/\v=.tup [.str x,a,w,t,.lst h,.lst n,m]
structure Fam (rs:List P) (nm:Str) (crew:Nat) (rooms cells whos steps:List P):Prop where
 hnm:PyData.strOk nm=true
 hcr:1≤crew/\crew≤4
 hro:∀x ∈ rooms,i8 x
 r0:rooms≠[]
 hce:tU cells
 cl:cells.length≤3
 hwh:∀x ∈ whos,i8 x
 wl:whos.length≤2
 s0:steps≠[]
 sl:steps.length≤8
 hst:∀x ∈ steps,qI nm rooms cells whos rs x
noncomputable def d6 (l:List P) (v:P):Prop:=∃n e r c u s,Fam l n e r c u s/\v=.tup [.str n,.int (e:Int),.lst r,.lst c,.lst u,.lst s]
theorem nA (p:3≤n) (s:List Int) (j:Nat) (o:Nat) (L:Lc) (c:j < L.length) (r:L[0]? = some (qp (cZ s))) (h:0≠j) (l:o+m≤16) (S:aD) :
  ∃a,bb (ag j) fm (af (pureOf (Ph n "_law_name")) (v2 (vv 0) (ab aq (vi (o:Int)) (vv j)))) (Ev.intsFrom 0 m) L S=some (a,S)/\(∀y ∈ a,i8 y)/\a.length=(Ev.intsFrom 0 m).length:=by
 refine ke (Inv:=fun f=>∃d,f=L.set j d) (fun v q f t=>?_) ⟨L[j],(iy c).symm⟩;obtain⟨d,rfl⟩:=t;obtain⟨i,rfl,u⟩:=fM q;obtain⟨x,w,_,e⟩:=mI p s (k:=o+i) (by lia);have e:pureOf (Ph n "_law_name") [cZ s,.int ((o:Int)+(i:Int))]=some (.str x):=by rw [<- e];rfl
 have g:((L.set j d).set j (qi (0+(i:Int))))[j]? = some (qi (0+(i:Int))):=by rw [dP (by simpa using c)]
 have b:((L.set j d).set j (qi (0+(i:Int))))[0]? = some (qp (cZ s)):=by rw [a7 (Ne.symm h),a7 (Ne.symm h)];exact r
 simp only [c8] at g b ⊢;exact⟨_,.str x,rfl,⟨_,List.set_set ..⟩,by simp [-List.set_set,g,b,e],x,w,rfl⟩
theorem Ep (A:2≤n) (s:List Int) (f:Int) (D:0≤f) (E:f < 900) (L:Lc) (P:L.length=14) (F:L[0]? = some (qp (cZ s))) (x:L[12]? = some (qi f)) (S:aD) :
  ∃l z o H:Int,bb (ag 13) fm (af (pureOf (Ph n "_law_mix")) (v2 (af (pureOf (Ph n "_law_cell_at")) (v2 (vv 0) (ab aq (vi 5) (ab aV (ab aq (vv 12) (vv 13)) (vi 24))))) (ab aq (ab aq (vi 11) (vv 12)) (vv 13)))) (Ev.intsFrom 0 4) L S=some ([.int l,.int z,.int o,.int H],S):=by
 obtain⟨C,e,y,h⟩:=ke (Q:=fun v=>∃d:Int,v=.int d) (g:=ag 13) (e:=af (pureOf (Ph n "_law_mix")) (v2 (af (pureOf (Ph n "_law_cell_at")) (v2 (vv 0) (ab aq (vi 5) (ab aV (ab aq (vv 12) (vv 13)) (vi 24))))) (ab aq (ab aq (vi 11) (vv 12)) (vv 13)))) (S:=S) (s:=Ev.intsFrom 0 4) (Inv:=fun m=>∃d,m=L.set 13 d) (L:=L) (fun v B m K=>by
  obtain⟨d,rfl⟩:=K;obtain⟨i,rfl,G⟩:=fM B;obtain⟨c,r,I,t,q⟩:=gY A s (k:=5+(f+(0+(i:Int))) % 24) (p:=11+f+(0+(i:Int))) (by lia) (by lia) (by lia);have w:((L.set 13 d).set 13 (qi (0+(i:Int))))[13]? = some (qi (0+(i:Int))):=by rw [dP (by simp [P])]
  have u:((L.set 13 d).set 13 (qi (0+(i:Int))))[0]? = some (qp (cZ s)):=by rw [a7 (by decide),a7 (by decide)];exact F
  have j:((L.set 13 d).set 13 (qi (0+(i:Int))))[12]? = some (qi f):=by rw [a7 (by decide),a7 (by decide)];exact x
  simp only [c8] at w u j t q ⊢;exact⟨_,.int r,rfl,⟨_,List.set_set ..⟩,by simp [-List.set_set,w,u,j,t,q],r,rfl⟩) ⟨L[13]'(by lia),(iy (by lia)).symm⟩
 rw [bH] at h;match C,h with
 | [a,b,c,d],_=>obtain⟨a,rfl⟩:=y a (by simp);obtain⟨b,rfl⟩:=y b (by simp);obtain⟨c,rfl⟩:=y c (by simp);obtain⟨d,rfl⟩:=y d (by simp);exact⟨a,b,c,d,e⟩
theorem xq (hn:5≤n) (y:List Int) (k:Nat) (hk:k≤3) (hnm:PyData.strOk I=true) (w:Nat) (hcr:1≤w/\w≤4) (wide:Bool) (hr:∀c ∈ l,e_ c) (hrl:l.length≤8) :
  ∃v,d6 l v/\(∃tl,v=.tup (.str I::.int (w:Int)::tl))/\pureOf (Ph n "_law_family") [cZ y,.int (k:Int),.str I,.int (w:Int),.bl wide,.lst l]=some v:=by
 obtain⟨n,rfl⟩:=fR (n:=n) (by first | assumption | lia);obtain⟨z,t,hz0,hz1,C,ht1,ez,et⟩:∃z t:Int,0≤z/\z≤1/\0 < t/\t≤8/\bB [.bl wide]=some (.int z)/\L2.atI [P.int 3,.int 8] z=some (.int t):=by
  cases wide
  .exact⟨0,3,by decide,by decide,by decide,by decide,by simp [bB,iZ],by simp⟩
  .exact⟨1,8,by decide,by decide,by decide,by decide,by simp [bB,iZ],by simp⟩
 obtain⟨e,hcl,hc,ec⟩:=zY (n:=n+1) (by lia) y (f:=(k:Int)) (m:=2+z) (by lia) (by lia) (by lia);obtain⟨X,e91⟩:=rF (n:=n+1) (by lia) y (k:=2+(k:Int)) (by lia);obtain⟨G,ha9,e92⟩:=qB (n:=n+1) (by lia) X (p:=9) (by lia) (by lia);obtain⟨K,ha8,Z⟩:=qB (n:=n+1) (by lia) X (p:=8) (by lia) (by lia);obtain⟨R,ha7,Y⟩:=qB (n:=n+1) (by lia) X (p:=7) (by lia) (by lia);have h9a:0≤G % t:=dn _ (by lia);have h9b:G % t < t:=dW _ C;have h7a:0≤R % t:=dn _ (by lia);have h7b:R % t < t:=dW _ C;have h8a:0≤K % (2+z):=dn _ (by lia);have h8b:K % (2+z) < 2+z:=dW _ (by lia);let A:List (Option D):=[qp (cZ y),qi (k:Int),qs I,qi (w:Int),qp (.bl wide),ql l]
 obtain⟨r,er,Q,o⟩:=nA (n:=n+1) (by lia) y 11 4 (A++[ql e,qi G,none,none,none,none,none]) (by simp [A]) rfl (by decide) (m:=(1+G % t).toNat) (by lia) [];obtain⟨u,ew,hw,hwl⟩:=nA (n:=n+1) (by lia) y 11 10 (A++[ql e,qi K,ql r,none,none,none,none]) (by simp [A]) rfl (by decide) (m:=(K % (2+z)).toNat) (by lia) [];rw [bH] at o hwl;have O:r≠[]:=fun q=>by rw [q] at o;simp at o;lia
 let F:Option D->Option D->Option D->Lc:=fun J a d=>A++[ql e,J,ql r,ql u,some (.ref 0),a,d]
 let Inv:Nat->Lc->aD->Prop:=fun i L S=>∃(E:List P) (J a d:Option D),E.length=i/\(∀c ∈ E,qI I r e u l c)/\L=F J a d/\S=[.lst (E.map .p)]
 obtain⟨L',S',e4,stp,J,a,d,B,hst,rfl,rfl⟩:=bg (g:=ag 11) (b:=fh (Ph (n+1)) (Ph n)) (Inv:=Inv) (s:=Ev.intsFrom 0 (1+R % t).toNat) (k:=0) (L:=F (qi K) none none) (S:=[.lst []]) (fun i v L S hv hI=>by
   obtain⟨rfl,hi⟩:=ints_get hv;obtain⟨E,J,a,d,hc1,ho,rfl,rfl⟩:=hI;simp only [c8];have m1:fq 8 (k:Int)=true:=bw (by decide) (by lia);have m2:fq 4 (8 * (k:Int)+(i:Int))=true:=bw (by decide) (by lia);obtain⟨d0,d1,d2,d3,ed⟩:=Ep (n:=n+1) (by lia) y (4 * (8 * (k:Int)+(i:Int))) (by lia) (by lia) (F J (qi (i:Int)) (qi (4 * (8 * (k:Int)+(i:Int))))++[none]) rfl rfl rfl [.lst (E.map .p)];obtain⟨x,hx,_,ex⟩:=mI (n:=n+1) (by lia) y (k:=8+i) (by lia);have ex:pureOf (Ph (n+1) "_law_name") [cZ y,.int (8+(i:Int))]=some (.str x):=by rw [<- ex];rfl
   obtain⟨T,W,V,j,U,H,hys,es⟩:=AN (n:=n+1) (by lia) d0 d1 d2 d3 (s:=I) Q O hc.1 (by lia) hw hr hrl;have N:E.length≤1000000:=by lia
   have M:aq (.tup [.str x]) (.tup [T,W,V,.lst j,.lst U,H])=some (.tup [.str x,T,W,V,.lst j,.lst U,H]):=rfl;refine⟨_,F (ql [.int d0,.int d1,.int d2,.int d3]) (qi (i:Int)) (qi (4 * (8 * (k:Int)+(i:Int)))),[.lst ((E++[P.tup [.str x,T,W,V,.lst j,.lst U,H]]).map D.p)],rfl,?_,_,_,_,_,by simp;lia,cB ho ⟨x,T,W,V,j,U,H,hx,hys,rfl⟩,rfl,rfl⟩;rw [<- cm];simp only [F,A,pW,fu] at ed;simp [fh,F,A,m1,m2,aX,bH,kj,ed,ex,es,M,c_,N]) ⟨[],_,none,none,rfl,fun _ h=>(by cases h),rfl,rfl⟩
 rw [bH] at B;refine⟨_,⟨I,w,r,e,u,stp,⟨hnm,hcr,Q,O,hc,by lia,hw,by lia,fun q=>by rw [q] at B;simp at B;lia,by lia,hst⟩,rfl⟩,⟨_,rfl⟩,?_⟩;have hz2:0 < 2+z:=by lia
 have q1:(1+G % t).natAbs < 1000000:=by lia
 have q2:(1+R % t).natAbs < 1000000:=by lia
 have q3:(K % (2+z)).natAbs < 1000000:=by lia
 have q4:(1+G % t).toNat≤1000000:=by lia
 have q5:(K % (2+z)).toNat≤1000000:=by lia
 rw [nQ,ai];simp only [F,A,pW,fu] at e4 er ew;simp only [show ((4:Nat):Int)=4 from rfl] at er;simp only [show ((10:Nat):Int)=10 from rfl] at ew;simp [jz,ez,et,ec,e91,e92,Z,Y,C,hz2,q1,q2,q3,q4,q5,aX,bH,kj,er,ew,e4]
theorem sB (K:3≤n) (c:List Int) (j:Nat) (L:Lc) (o:j < L.length) (H:L[0]? = some (qp (cZ c))) (b:0≠j) (A:m≤16) (S:aD) :
  ∃q,bb (ag j) fm (af (pureOf (Ph n "_law_name")) (v2 (vv 0) (vv j))) (Ev.intsFrom 0 m) L S=some (q,S)/\(∀y ∈ q,i8 y)/\(∀(i:Nat) y,q[i]? = some y->∃x,y=.str x/\hd x=some (97+i))/\q.length=(Ev.intsFrom 0 m).length:=by
 let f:P->P:=fun v=>(pureOf (Ph n "_law_name") [cZ c,v]).getD .non
 have w:∀i,i < m->∃x,PyData.strOk x=true/\hd x=some (97+i)/\pureOf (Ph n "_law_name") [cZ c,.int (i:Int)]=some (.str x)/\f (.int (i:Int))=.str x:=fun i e=>by obtain⟨x,t,u,r⟩:=mI K c (k:=i) (by lia);exact⟨x,t,u,r,by simp [f,r]⟩
 refine⟨(Ev.intsFrom 0 m).map f,?_,fun y a=>?_,fun i y a=>?_,by simp⟩
 .rw [bI (p:=fun _=>true) (f:=f) (Inv:=fun g=>∃d,g=L.set j d) (fun v h g F=>?_) ⟨L[j],(iy o).symm⟩,mX.mpr fun _ _=>rfl];obtain⟨d,rfl⟩:=F;obtain⟨i,rfl,e⟩:=fM h;obtain⟨x,t,_,r,s⟩:=w i e;have l:((L.set j d).set j (qi (0+(i:Int))))[j]? = some (qi (0+(i:Int))):=by
   rw [dP (by simpa using o)]
  have z:((L.set j d).set j (qi (0+(i:Int))))[0]? = some (qp (cZ c)):=by rw [a7 (Ne.symm b),a7 (Ne.symm b)];exact H
  simp only [c8] at l z ⊢;exact⟨_,rfl,⟨_,List.set_set ..⟩,rfl,fun _=>by rw [s];simp [-List.set_set,l,z,r]⟩
 .obtain⟨v,h,rfl⟩:=bA.mp a;obtain⟨i,rfl,e⟩:=fM h;obtain⟨x,t,_,_,s⟩:=w i e;rw [c8,s];exact⟨x,t,rfl⟩
 .rw [List.getElem?_map] at a;cases h:(Ev.intsFrom 0 m)[i]? with
  | none=>rw [h] at a;cases a
  | some v=>rw [h] at a;cases a;obtain⟨rfl,e⟩:=ints_get h;obtain⟨x,_,u,_,s⟩:=w i e;exact⟨x,by rw [c8,s],u⟩
noncomputable def fY:P->Nat
 | .tup (_::.int c::_)=>c.toNat
 | _=>0
noncomputable def zr (v:P):Prop:=∃(k f s:Str),(k="weak"\/k="strong")/\PyData.strOk f=true/\PyData.strOk s=true/\v=.tup [.str k,.str f,.str s]
structure Pln (fams roads wishes:List P):Prop where
 hf:∀f ∈ fams,d6 roads f
 cr:∃c,(∀f ∈ fams,fY f≤c)/\fams.length * c≤4
 f0:1≤fams.length/\fams.length≤4
 hr:∀r ∈ roads,e_ r
 ra:∀r ∈ roads,(∃f ∈ fams,a8 f=rA r)/\∃f ∈ fams,a8 f=rB r
 rl:roads.length≤8
 hw:∀w ∈ wishes,zr w
 wl:wishes.length≤6
 rd:roads.Pairwise RD
theorem wv (f:h->a) (x:List h) (i:Int):L2.atI (x.map f) i=(L2.atI x i).map f:=by
 unfold L2.atI;rw [b8];cases L2.xc x.length i with
 | none=>rfl
 | some j=>simp
theorem A_ (hn:6≤n) (U:List Int):∃l H y,Pln l H y/\pureOf (Ph n "_law_plan") [cZ U,.int 3]=some (.tup [.lst l,.lst H,.lst y]):=by
 obtain⟨n,rfl⟩:=fR (n:=n) (by first | assumption | lia);obtain⟨o,e0⟩:=rF (n:=n+1) (by lia) U (k:=0) (by lia);generalize hwd:decide (o / 64 % 8=1)=wide;obtain⟨z,t,hz0,hz1,Y,ht1,ez,et⟩:∃z t:Int,0≤z/\z≤1/\0 < t/\t≤4/\bB [.bl wide]=some (.int z)/\L2.atI [P.int 2,.int 4] z=some (.int t):=by
  cases wide
  .exact⟨0,2,by decide,by decide,by decide,by decide,by simp [bB,iZ],by simp⟩
  .exact⟨1,4,by decide,by decide,by decide,by decide,by simp [bB,iZ],by simp⟩
 have hm0:0≤o % t:=dn _ (by lia);have hm1:o % t < t:=dW _ Y;obtain⟨m,hm⟩:∃m:Nat,1+o % t=(m:Int):=⟨(1+o % t).toNat,by lia⟩;have hm2:1≤m/\m≤4:=by lia
 obtain⟨K,en,hnm,hnh,hnl⟩:=sB (n:=n+1) (by lia) U 8 [qp (cZ U),qi 3,qi o,qp (.bl wide),qi (m:Int),none,none,none,none,none,none,none,none,none] (by simp) rfl (by decide) (m:=m) (by lia) [];rw [bH] at hnl;obtain⟨H,⟨hrl,hr,hrd⟩,er⟩:=yA (n:=n+1) (by lia) U hnm (fun i j x h1 h2=>by
  obtain⟨a,rfl,ha⟩:=hnh i _ h1;obtain⟨b,e,hb⟩:=hnh j _ h2;cases e;rw [ha] at hb;have:=Option.some.inj hb
  lia) (by lia) (m:=2+z) (by lia) (by lia)
 obtain⟨b,hb0,hb1,hbm,eb⟩:∃b:Int,0 < b/\b≤4/\m * b.toNat≤4/\L2.atI [P.int (3+z),.int 2,.int 1,.int 1] ((m:Int)-1)=some (.int b):=by
  have:m=1\/m=2\/m=3\/m=4:=by lia
  rcases this with rfl | rfl | rfl | rfl
  .exact⟨3+z,by lia,by lia,by lia,by simp⟩
  .exact⟨2,by decide,by decide,by decide,by simp⟩
  .exact⟨1,by decide,by decide,by decide,by simp⟩
  .exact⟨1,by decide,by decide,by decide,by simp⟩
 let F:Option D->Option D->Option D->Option D->Option D->Option D->Lc:=fun R V B q11 N O=>[qp (cZ U),qi 3,qi o,qp (.bl wide),qi (m:Int),ql K,ql H,some (.ref 0),R,V,B,q11,N,O]
 let Inv:Nat->Lc->aD->Prop:=fun i L S=>∃(I:List P) (R V B:Option D),I.length=i/\(∀c ∈ I,d6 H c/\fY c≤b.toNat)/\(∀j x,K[j]? = some x->j < i->∃f ∈ I,x=.str (a8 f))/\L=F R V B none none none/\S=[.lst (I.map .p)]
 obtain⟨L',S',e1,l,R,V,B,hfl,X,hfn,rfl,rfl⟩:=bg (g:=aI [ag 8,ag 9]) (b:=f8 (Ph (n+1)) (Ph n)) (Inv:=Inv) (s:=aR 0 K) (k:=0) (L:=F none none none none none none) (S:=[.lst []]) (fun i v L S hv hI=>by
   obtain⟨x,Z,rfl⟩:=dg hv;have hi:=aW Z;obtain⟨nm,hnm1,rfl⟩:=hnm x (bF Z);obtain⟨I,R,V,B,hc,ho,hon,rfl,rfl⟩:=hI;obtain⟨a,ha,ea⟩:∃a:Int,(0 < a/\a < 1152921504606846976)/\L2.atI [P.int 4,.int 12,.int 16,.int 16] (i:Int)=some (.int a):=by
    have:i=0\/i=1\/i=2\/i=3:=by lia
    rcases this with rfl | rfl | rfl | rfl
    .exact⟨4,by decide,by simp⟩
    .exact⟨12,by decide,by simp⟩
    .exact⟨16,by decide,by simp⟩
    .exact⟨16,by decide,by simp⟩
   have hb2:0≤o / a % b:=dn _ (by lia);have hb3:o / a % b < b:=dW _ hb0;obtain⟨cr,hcr⟩:∃cr:Nat,1+o / a % b=(cr:Int):=⟨(1+o / a % b).toNat,by lia⟩;obtain⟨v,hv2,⟨tl,hv3⟩,ev⟩:=xq (n:=n+1) (by lia) U i (by lia) hnm1 cr (by lia) wide (fun r h=>(hr r h).1) hrl;have M:I.length≤1000000:=by lia
   refine⟨_,F (qi (i:Int)) (qs nm) (qi (cr:Int)) none none none,[.lst ((I++[v]).map D.p)],rfl,?_,_,_,_,_,by simp;lia,cB ho ⟨hv2,?_⟩,fun j x hj hji=>?_,rfl,rfl⟩
   .rw [<- cm];simp [f8,F,ea,ha,ez,eb,hb0,hcr,ev,c_,M]
   .rw [hv3];simp [fY];lia
   .by_cases hjj:j < i
    .obtain⟨f,W,e⟩:=hon j x hj (by lia);exact⟨f,j5 _ W,e⟩
    .have:j=i:=by lia
     subst this;rw [Z] at hj;cases hj;exact⟨v,by simp,by rw [hv3];rfl⟩) ⟨[],none,none,none,rfl,fun _ h=>(by cases h),fun _ _ _ h=>(by lia),rfl,rfl⟩
 have Q:l.length=m:=by rw [hfl,cf,hnl];lia
 have hf0:l≠[]:=fun q=>by rw [q] at Q;simp at Q;lia
 have T:∀x ∈ K,∃f ∈ l,x=.str (a8 f):=fun x hx=>by obtain⟨j,hj,e⟩:=jf.mp hx;exact hfn j x (by rw [cR hj,e]) (by rw [cf];lia)
 let Inv3:Nat->Lc->aD->Prop:=fun i L S=>∃(I:List P) (R N O:Option D),I.length=i/\(∀c ∈ I,zr c)/\L=F R V B (some (.ref 1)) N O/\S=[.lst (l.map .p),.lst (I.map .p)]
 obtain⟨w,hw0,hw1,ew⟩:∃w:Int,0≤w/\w≤1/\bB [.bl (wide && decide (o % 3=1))]=some (.int w):=by
  cases (wide && decide (o % 3=1))
  .exact⟨0,by decide,by decide,rfl⟩
  .exact⟨1,by decide,by decide,rfl⟩
 obtain⟨L',S',e2,y,q8',N,O,hwl,hwi,rfl,rfl⟩:=bg (g:=ag 8) (b:=f6 (Ph (n+1)) (Ph n)) (Inv:=Inv3) (s:=Ev.intsFrom 0 (o / 48 % 3+4 * w).toNat) (k:=0) (L:=F R V B (some (.ref 1)) none none) (S:=[.lst (l.map .p),.lst []]) (fun i v L S hv hI=>by
   obtain⟨rfl,hi⟩:=ints_get hv;obtain⟨I,R,N,O,hc,ho,rfl,rfl⟩:=hI;simp only [c8];obtain⟨c,d,hd,e3,e4⟩:=gY (n:=n+1) (by lia) U (k:=4) (p:=20+(i:Int)) (by lia) (by lia) (by lia);obtain⟨f,W,ef⟩:=d_ hf0 d;rw [Q] at ef;obtain⟨nm,J,E,C,u,A,G,rfl⟩:=(X f W).1;obtain⟨s,hs,es⟩:=d_ G.s0 (d / 8);have hls:=len_pos G.s0;obtain⟨x,rm,wh,tk,chg,sn,rm2,hx,hys,rfl⟩:=G.hst s hs;obtain⟨mk,hmk,emk⟩:=nv (a:="weak") (b:="strong") (d / 4);have M:I.length≤1000000:=by lia
   have ef2:L2.atI (l.map D.p) (d % (m:Int))=qp (.tup [.str nm,.int (J:Int),.lst E,.lst C,.lst u,.lst A]):=by rw [wv,ef];rfl
   have hmp:(0:Int) < (m:Int):=by lia
   have hmp2:0 < m:=by lia
   refine⟨_,F (qi (i:Int)) V B (some (.ref 1)) (qi d) (qp (.tup [.str nm,.int (J:Int),.lst E,.lst C,.lst u,.lst A])),[.lst (l.map .p),.lst ((I++[P.tup [.str mk,.str nm,.str x]]).map D.p)],rfl,?_,_,_,_,_,by simp;lia,cB ho ⟨mk,nm,x,hmk,G.hnm,hx,rfl⟩,rfl,rfl⟩;rw [<- cm];have e5:L2.atI [P.str nm,.int (J:Int),.lst E,.lst C,.lst u,.lst A] 5=some (.lst A):=aU (by decide) rfl;simp [f6,F,e3,e4,hmp,hmp2,ef2,e5,emk,b_,cE,hls,es,c_,M]) ⟨[],_,none,none,rfl,fun _ h=>(by cases h),rfl,rfl⟩
 rw [bH] at hwl;refine⟨l,H,y,⟨fun f h=>(X f h).1,⟨b.toNat,fun f h=>(X f h).2,by rw [Q];exact hbm⟩,by lia,fun r h=>(hr r h).1,fun r h=>⟨?_,?_⟩,hrl,hwi,by lia,hrd⟩,?_⟩
 .obtain⟨f,W,e⟩:=T _ (hr r h).2.1;exact⟨f,W,(P.str.inj e).symm⟩
 .obtain⟨f,W,e⟩:=T _ (hr r h).2.2;exact⟨f,W,(P.str.inj e).symm⟩
 have q1:(o / 48 % 3+4 * w).natAbs < 1000000:=by lia
 have q2:fq 4 w=true:=bw (by decide) (by lia);have q3:m < 1000000:=by lia
 have q4:m≤1000000:=by lia
 have t0:toP 9 (.ref 0) [.lst (l.map .p),.lst (y.map .p)]=some (.lst l,[.fz (.lst l),.lst (y.map .p)]):=ee rfl;have t1:toP 9 (.ref 1) [.fz (.lst l),.lst (y.map .p)]=some (.lst y,[.fz (.lst l),.fz (.lst y)]):=ee rfl;rw [qM,ai];simp only [F] at e1 e2;cases wide
 .simp only [Bool.false_and] at ew;have hzw:z=w:=by rw [ez] at ew;cases ew;rfl
  subst hzw;simp [iP,e0,hwd,ez,et,Y,hm,q1,q2,q3,q4,aX,bH,kj,en,er,e1,ew,e2,t0,t1]
 .simp only [Bool.true_and] at ew;simp [iP,e0,hwd,ez,et,Y,hm,q1,q2,q3,q4,aX,bH,kj,en,er,e1,ew,e2,t0,t1]
end My
namespace My
open PySem L2 Ev
section
variable {m:List P}
noncomputable def hw:Nat->List P->List (Nat×P)
 | _,[]=>[]
 | k,f::r=>List.replicate (fY f) (k,f)++hw (k+1) r
theorem d6.crew (h:d6 m f):fY f≤4:=by obtain⟨n,c,r,a,w,s,x,rfl⟩:=h;simpa [fY] using x.hcr.2
theorem uI:∀{a:List P} (k:Nat),(∀f ∈ a,d6 m f)->(hw k a).length≤4 * a.length
 | [],k,_=>by simp [hw]
 | f::r,k,h=>by have:=uI (a:=r) (k+1) fun x e=>h x (aY _ e);have c:=(h f List.mem_cons_self).crew;simp [hw];lia
theorem lp:∀{a:List P}{k:Nat}{x:Nat×P},x ∈ hw k a->∃j,x.1=k+j/\a[j]? = some x.2
 | [],k,x,h=>by simp [hw] at h
 | f::r,k,x,h=>by
  unfold hw at h;rcases cC.mp h with h | h
  .obtain⟨_,rfl⟩:=pP.mp h;exact⟨0,by simp,by simp⟩
  .obtain⟨j,s,e⟩:=lp h;exact⟨j+1,by lia,by simpa using e⟩
noncomputable def homes (f:List P):List P:=(hw 0 f).map fun x=>.int (x.1:Int)
noncomputable def av (f:List P):List P:=(hw 0 f).map (·.2)
theorem gu (S:aD) (x:SO):(S++[x])[S.length]? = some x:=by simp
theorem ij (k:Nat):((k+1:Nat):Int)=(k:Int)+1:=by lia
theorem v0 (z y:Str->GF) (S:aD) (l:P):∀(b:List P) (k:Nat) (n:List P) (g i:Option D),(∀f ∈ b,d6 m f)->n.length+4 * b.length≤1000 ->
  ∃q v,aO (aI [ag 2,ag 3]) (eN z y) (aR (k:Int) b) [qp l,some (.ref S.length),g,i] (S++[.lst (n.map .p)])=some (.nx,[qp l,some (.ref S.length),q,v],S++[.lst ((n++(hw k b).map fun x=>P.int (x.1:Int)).map .p)])
 | [],k,n,g,i,_,_=>⟨g,i,by simp [aR,aO,hw]⟩
 | f::r,k,n,g,i,h,F=>by
  obtain⟨u,c,o,a,w,s,H,rfl⟩:=h f List.mem_cons_self;have A:=H.hcr.2;simp only [bc] at F;obtain⟨q,v,e⟩:=v0 z y S l r (k+1) (n++List.replicate c (P.int (k:Int))) (qi (k:Int)) (qp (.tup [.str u,.int (c:Int),.lst o,.lst a,.lst w,.lst s])) (fun x K=>h x (aY _ K)) (by simp;lia);refine⟨q,v,?_⟩;have j:(hw k (.tup [.str u,.int (c:Int),.lst o,.lst a,.lst w,.lst s]::r)).map (fun x=>P.int (x.1:Int))=List.replicate c (P.int (k:Int))++(hw (k+1) r).map (fun x=>P.int (x.1:Int)):=by simp [hw,fY]
  rw [j,<- List.append_assoc];unfold aR;rw [ij] at e;refine (bf (s:=[qp l,some (.ref S.length),qi (k:Int),qp (.tup [.str u,.int (c:Int),.lst o,.lst a,.lst w,.lst s])]) (L2:=[qp l,some (.ref S.length),qi (k:Int),qp (.tup [.str u,.int (c:Int),.lst o,.lst a,.lst w,.lst s])]) (k:=S++[.lst ((n++List.replicate c (P.int (k:Int))).map .p)]) rfl ?_).trans e;have d:c≤1000000:=by lia
  have p:c < 1000000:=by lia
  have t:n.length+c≤1000000:=by lia
  simp [eN,c_,d,p,t]
theorem Cv (a:2≤n) (h:∀f ∈ s,d6 m f) (l:s.length≤4) (r w:P) (S:aD):Ph n "families_of" [.p (.tup [.lst s,r,w])] S=some (.ref S.length,S++[.lst ((homes s).map .p)]):=by obtain⟨n,rfl⟩:=fR (n:=n) (by first | assumption | lia);obtain⟨q,k,e⟩:=v0 (Ph (n+1)) (Ph n) S (.tup [.lst s,r,w]) s 0 [] none none h (by simp;lia);rw [mf];simp only [fu,gA] at e;have x:=e;rw [show ((0:Nat):Int)=0 from rfl] at x;simp [cJ,i3,x,homes]
theorem vZ (x:2≤n) (h:∀f ∈ s,d6 m f) (l:s.length≤4) (r w:P):pureOf (Ph n "families_of") [.tup [.lst s,r,w]]=some (.lst (homes s)):=by unfold pureOf;rw [List.map_cons,gA,Cv x h l r w []];simp
noncomputable def ar (f:List P):LS:=(av f).map a8
theorem ib (h:∀f ∈ s,d6 m f) (a:f ∈ av s):d6 m f:=by unfold av at a;obtain⟨x,n,rfl⟩:=bA.mp a;obtain⟨j,_,e⟩:=lp n;exact h _ (bF e)
noncomputable def bX (N:LS) (s:Str):List Nat:=(List.range N.length).filter fun i=>decide (N[i]? = some s)
theorem v_:∀(xs:List P) (k:Nat),aR (k:Int) xs=(List.range' k xs.length).map fun i=>.tup [.int (i:Int),(xs[i-k]?).getD .non]
 | [],k=>rfl
 | x::r,k=>by
  unfold aR;have h:=v_ r (k+1);rw [ij] at h;rw [h,bc,p0,List.map_cons];simp only [Nat.sub_self];congr 1;refine List.map_congr_left fun i a=>?_
  have:=(List.mem_range'_1.mp a).1;rw [show i-k=(i-(k+1))+1 by lia,List.getElem?_cons_succ]
theorem zO (xs:List P):aR 0 xs=(List.range xs.length).map fun i=>.tup [.int (i:Int),(xs[i]?).getD .non]:=by have:=v_ xs 0;rw [List.range_eq_range'];simpa using this
noncomputable def pr (road:P) (n o:Nat):P:=.tup [road,.int (n:Int),.int (o:Int)]
noncomputable def tW (N:LS) (road:P):List P:=(bX N (rA road)).flatMap fun n=>((bX N (rB road)).filter fun o=>!decide (n=o)).map fun o=>pr road n o
noncomputable def a6 (N:LS) (r:List P):List P:=r.flatMap (tW N)
noncomputable def bG (s:List Nat):List P:=s.map fun (i:Nat)=>P.int (i:Int)
theorem dL (N:LS) (s:Str):(bX N s).length≤N.length:=by unfold bX;exact aM (iw _ _) (by simp)
theorem qk (n:Nat) (road:P) (os:List Nat):((os.filter fun o=>!decide (n=o)).map fun o=>pr road n o).length≤os.length:=by rw [b8];exact iw _ _
theorem qu (N:LS) (road:P) (os:List Nat) (h:os.length≤16):∀(s:List Nat),(s.flatMap fun n=>(os.filter fun o=>!decide (n=o)).map fun o=>pr road n o).length≤16 * s.length
 | []=>by simp
 | i::s=>by
  have:=qu N road os h s;have:=qk i road os
  simp only [g7,List.length_append,bc];lia
theorem vW:∀{a:List P} (k:Nat),(∀f ∈ a,fY f≤e)->(hw k a).length≤a.length * e
 | [],k,_=>by simp [hw]
 | f::r,k,h=>by have:=vW (a:=r) (k+1) fun x s=>h x (aY _ s);have c:=h f List.mem_cons_self;simp [hw,Nat.add_mul];lia
theorem gx (h:Pln f e s):(av f).length≤4:=by
 obtain⟨c,x,a⟩:=h.cr;have:=vW 0 x
 unfold av;simp;lia
theorem lr (h:Pln f e s):(ar f).length≤4:=by unfold ar;rw [b8];exact gx h
end
section
variable {m:List P}
theorem zC (h:e ∈ homes s):∃p f,e=.int ((p:Nat):Int)/\s[p]? = some f/\f ∈ av s:=by unfold homes at h;obtain⟨x,a,rfl⟩:=bA.mp h;obtain⟨j,n,k⟩:=lp a;exact⟨x.1,x.2,rfl,by rw [n,eF];exact k,bA.mpr ⟨x,a,rfl⟩⟩
theorem xk (h:∀p x,s[p]? = some x->g (.int ((p:Nat):Int))=f x):(homes s).map g=(av s).map f:=by
 unfold homes av;rw [mQ,mQ];refine List.map_congr_left fun x n=>?_
 obtain⟨j,e,a⟩:=lp n;exact h x.1 x.2 (by rw [e,eF];exact a)
theorem eP (xs:List e):xs.filter (fun _=>true)=xs:=mX.mpr fun _ _=>rfl
theorem lq:(homes f).length=(av f).length:=by simp [homes,av]
theorem bu (h:xs[e]? = some s):L2.atI xs ((e:Nat):Int)=some s:=aU (by lia) (by simpa using h)
theorem yJ (q:∀f ∈ s,d6 m f) (r w:P) (S:aD):bb (ag 7) fm (ab al (ab al (ab al (vv 0) (vi 0)) (vv 7)) (vi 0)) (homes s) [qp (.tup [.lst s,r,w]),none,none,none,none,none,none,none] S=some ((ar s).map .str,S):=by
 rw [bI (p:=fun _=>true) (f:=fun v=>match v with | .int i=>(match s[i.toNat]? with | some f=>.str (a8 f) | none=>.non) | _=>.non) (Inv:=fun L=>∃d,L=[qp (.tup [.lst s,r,w]),none,none,none,none,none,none,d]) (fun v g L b=>?_) ⟨none,rfl⟩]
 .rw [eP,xk (f:=fun f=>.str (a8 f)) fun p x j=>by simp [j]];simp [ar]
 .obtain⟨d,rfl⟩:=b;obtain⟨p,f,rfl,n,h⟩:=zC g;obtain⟨l,c,o,a,k,t,u,rfl⟩:=ib q h;have e:=bu n;exact⟨[qp (.tup [.lst s,r,w]),none,none,none,none,none,none,qi (p:Int)],rfl,⟨_,rfl⟩,rfl,fun _=>by simp [e,n,a8]⟩
noncomputable def oth (N:LS) (s:Str) (n:Nat):List Nat:=(bX N s).filter fun o=>!decide (n=o)
theorem wU (N:LS) (a b:Str) (k:P) (c:Int) (x s:Bool) (l r:D) (o:Nat) (q n:Option D) (S:aD):bb (ag 7) (fP (bV (aA oz (aa 7) (aa 4))) (bV (aA dC (eV (ab al (vv 1) (vv 7))) (eV (ab al (vv 3) (vi 1)))))) (vv 7) (Ev.intsFrom 0 N.length)
  [some l,ql (N.map .str),some r,qp (.tup [.str a,.str b,k,.int c,.bl x,.bl s]),qi (o:Int),q,n,none] S=some (bG (oth N b o),S):=by
 rw [bI (p:=fun v=>match v with | .int i=>(!decide (o=i.toNat)) && decide (N[i.toNat]? = some b) | _=>false) (f:=id) (Inv:=fun L=>∃d,L=[some l,ql (N.map .str),some r,qp (.tup [.str a,.str b,k,.int c,.bl x,.bl s]),qi (o:Int),q,n,d]) (fun v j L w=>?_) ⟨none,rfl⟩]
 .congr 2;unfold Ev.intsFrom bG oth bX;rw [mE,mw,List.filter_filter];simp only [c8];congr 1
 .obtain⟨d,rfl⟩:=w;obtain⟨i,rfl,u⟩:=fM j;simp only [c8];have g:N[i]? = some N[i]:=cR u;have e:L2.atI (N.map P.str) (i:Int)=some (.str N[i]):=bu (by rw [List.getElem?_map,g];rfl);refine⟨[some l,ql (N.map .str),some r,qp (.tup [.str a,.str b,k,.int c,.bl x,.bl s]),qi (o:Int),q,n,qi (i:Int)],rfl,⟨_,rfl⟩,?_,fun _=>by simp⟩;by_cases h:o=i
  .simp [h]
  .have m:¬(i:Int)=(o:Int):=by lia
   have t:¬i=o:=fun z=>h z.symm;simp [h,m,t,e,g];first | done | exact pN.mpr Iff.rfl
theorem A6 (road:P) (n:Nat) (L:Lc) (l:L.length=8) (g:L[3]? = some (qp road)) (x:L[4]? = some (qi (n:Int))) (os:List Nat) (S:aD):bb (ag 7) fm (az (v3 (vv 3) (vv 4) (vv 7))) (bG os) L S=some (os.map fun o=>pr road n o,S):=by
 rw [bI (p:=fun _=>true) (f:=fun v=>.tup [road,.int (n:Int),v]) (Inv:=fun h=>∃d,h=L.set 7 d) (fun v b h a=>?_) ⟨L[7],(iy (by lia)).symm⟩]
 .rw [eP];unfold bG pr;rw [mQ];rfl
 .obtain⟨d,rfl⟩:=a;have k:((L.set 7 d).set 7 (qp v))[7]? = some (qp v):=by rw [dP (by simp [l])]
  have e:((L.set 7 d).set 7 (qp v))[3]? = some (qp road):=by rw [a7 (by decide),a7 (by decide)];exact g
  have s:((L.set 7 d).set 7 (qp v))[4]? = some (qi (n:Int)):=by rw [a7 (by decide),a7 (by decide)];exact x
  exact⟨_,rfl,⟨_,List.set_set ..⟩,rfl,fun _=>by simp [-List.set_set,k,e,s]⟩
noncomputable def lL (N:LS) (road:P) (n:Nat):List P:=if decide (N[n]? = some (rA road))=true then (oth N (rB road) n).map fun o=>pr road n o else []
theorem wX (N:LS) (road:P) (o:Nat) (h:N.length≤16):(lL N road o).length≤16:=by
 unfold lL;split
 .have x:=qk o road (bX N (rB road));have a:=dL N (rB road);unfold oth;lia
 .simp
theorem JL (G E:Str->GF) (S:aD) (l:D) (N:LS) (y:N.length≤16) (v:e_ road):∀(r:List Nat) (x:List P) (d w k:Option D),(∀i ∈ r,i < N.length)->x.length+16 * r.length≤50000 ->
  ∃q s n,aO (aI [ag 4,ag 5]) (eD G E) (r.map fun (i:Nat)=>P.tup [.int (i:Int),((N.map P.str)[i]?).getD .non]) [some l,ql (N.map .str),some (.ref S.length),qp road,d,w,k] (S++[.lst (x.map .p)]) =
   some (.nx,[some l,ql (N.map .str),some (.ref S.length),qp road,q,s,n],S++[.lst ((x++r.flatMap (lL N road)).map .p)])
 | [],x,d,w,k,_,_=>⟨d,w,k,by simp [aO]⟩
 | i::r,x,d,w,k,F,R=>by
  simp only [bc] at R;have t:=wX N road i y;have K:=F i List.mem_cons_self;have z:N[i]? = some N[i]:=cR K;have H:((N.map P.str)[i]?).getD .non=.str N[i]:=by rw [List.getElem?_map,z];rfl
  rw [g7,<- List.append_assoc,List.map_cons,H];by_cases h:N[i]=rA road
  .have g:lL N road i=(oth N (rB road) i).map fun o=>pr road i o:=by unfold lL;rw [z,h];simp
   rw [g] at t ⊢;obtain⟨q,s,n,e⟩:=JL G E S l N y v r (x++(oth N (rB road) i).map fun o=>pr road i o) (qi (i:Int)) (qs (N[i])) (ql (bG (oth N (rB road) i))) (fun j A=>F j (aY _ A)) (by rw [List.length_append];lia);refine⟨q,s,n,?_⟩;refine (bf (s:=[some l,ql (N.map .str),some (.ref S.length),qp road,qi (i:Int),qs (N[i]),k]) rfl ?_).trans e;have p:x.length+(oth N (rB road) i).length≤1000000:=by rw [b8] at t;lia
   have f:(oth N (rB road) i).length≤1000000:=by lia
   have m:(bG (oth N (rB road) i)).length=(oth N (rB road) i).length:=by simp [bG]
   have T:N.length < 1000000:=by lia
   have C:N.length≤1000000:=by lia
   have u:=A6 road i [some l,ql (N.map .str),some (.ref S.length),qp road,qi (i:Int),qs (N[i]),ql (bG (oth N (rB road) i)),none] rfl rfl rfl (oth N (rB road) i) (S++[.lst (x.map .p)]);obtain⟨a,b,M,c,I,J,O,Q,B,_,_,rfl⟩:=v;have L:=wU N a b (.str M) c I J l (.ref S.length) i (qs (N[i])) k (S++[.lst (x.map .p)]);simp only [rA,rB] at h p f m u ⊢;simp [eD,h,aX,b_,cE,T,C,bH,kj,c_,m,f,p];simp [h] at L u;simp [L,u,m,f,p]
  .have g:lL N road i=[]:=by unfold lL;rw [z];simp [h]
   rw [g,List.append_nil];obtain⟨q,s,n,e⟩:=JL G E S l N y v r x (qi (i:Int)) (qs (N[i])) k (fun j A=>F j (aY _ A)) (by lia);refine⟨q,s,n,?_⟩;refine (bf (s:=[some l,ql (N.map .str),some (.ref S.length),qp road,qi (i:Int),qs (N[i]),k]) rfl ?_).trans e;obtain⟨a,b,M,c,I,J,O,Q,B,_,_,rfl⟩:=v;simp only [rA] at h;simp [eD,h]
end
section
variable {m:List P}
theorem jv (p:e->Bool) (f:e->List s):∀xs:List e,(xs.filter p).flatMap f=xs.flatMap fun x=>if p x=true then f x else []
 | []=>rfl
 | x::r=>by
  by_cases h:p x=true
  .rw [t4 h,g7,g7,jv p f r,if_pos h]
  .rw [t3 h,g7,jv p f r,if_neg h,fu]
theorem Dq (N:LS) (road:P):(List.range N.length).flatMap (lL N road)=tW N road:=by unfold tW;rw [show bX N (rA road)=(List.range N.length).filter (fun i=>decide (N[i]? = some (rA road))) from rfl,jv];rfl
theorem k_ (N:LS) (road:P) (h:N.length≤16):(tW N road).length≤256:=by
 have x:=dL N (rA road);have a:=dL N (rB road);have:=qu N road (bX N (rB road)) (by lia) (bX N (rA road))
 unfold tW;lia
theorem Ku (g u:Str->GF) (S:aD) (p:D) (N:LS) (d:N.length≤16):∀(o:List P) (a:List P) (t q e n:Option D),(∀r ∈ o,e_ r)->a.length+256 * o.length≤10000 ->
  ∃w x s k,aO (ag 3) (i0 g u) o [some p,ql (N.map .str),some (.ref S.length),t,q,e,n] (S++[.lst (a.map .p)]) =
   some (.nx,[some p,ql (N.map .str),some (.ref S.length),w,x,s,k],S++[.lst ((a++a6 N o).map .p)])
 | [],a,t,q,e,n,_,_=>⟨t,q,e,n,by simp [aO,a6]⟩
 | road::o,a,t,q,e,n,l,H=>by simp only [bc] at H;obtain⟨x,s,k,v⟩:=JL g u S p N d (l road List.mem_cons_self) (List.range N.length) a q e n (fun i z=>by simpa using z) (by simp;lia);have F:=k_ N road d;obtain⟨f,b,c,m,y⟩:=Ku g u S p N d o (a++tW N road) (qp road) x s k (fun r h=>l r (aY _ h)) (by rw [List.length_append];lia);refine⟨f,b,c,m,?_⟩;rw [show a6 N (road::o)=tW N road++a6 N o by simp [a6],<- List.append_assoc];refine (bf (s:=[some p,ql (N.map .str),some (.ref S.length),qp road,q,e,n]) rfl ?_).trans y;rw [Dq] at v;have j:=zO (N.map P.str);rw [b8] at j;rw [<- j] at v;show b7 _ _ _ _ _=_;simp only [bC];rw [show gO (vv 1) [some p,ql (N.map .str),some (.ref S.length),qp road,q,e,n] (S++[.lst (a.map .p)])=some (aR 0 (N.map P.str),S++[.lst (a.map .p)]) by simp];exact v
theorem Cb (k:3≤n) (h:Pln y s f) (S:aD):Ph n "pairs_of" [.p (.tup [.lst y,.lst s,.lst f])] S=some (.ref S.length,S++[.lst ((a6 (ar y) s).map .p)]):=by
 obtain⟨n,rfl⟩:=fR (n:=n) (by first | assumption | lia);have:=h.rl
 have x:=vZ (n:=n+1) (by lia) h.hf h.f0.2 (.lst s) (.lst f);have a:=yJ h.hf (.lst s) (.lst f) S;obtain⟨q,b,c,m,e⟩:=Ku (Ph (n+1)) (Ph n) S (.p (.tup [.lst y,.lst s,.lst f])) (ar y) (aM (lr h) (by decide)) s [] none none none none h.hr (by simp;lia);have l:(homes y).length≤1000000:=by rw [lq];have:=gx h;lia
 rw [qK];simp only [fu,gA] at e;simp [cJ,kM,x,aX,l,kj,a,e]
theorem A8 (x:3≤n) (h:Pln f s e):pureOf (Ph n "pairs_of") [.tup [.lst f,.lst s,.lst e]]=some (.lst (a6 (ar f) s)):=by unfold pureOf;rw [List.map_cons,gA,Cb x h []];simp
noncomputable def nN:P->P
 | .tup [_,_,_,x]=>x
 | _=>.non
noncomputable def ga:P->P
 | .tup [_,_,_,.lst a,.lst w,_]=>.tup [.int 0,.tup (a.map nN),.tup (List.replicate w.length (.int (-1)))]
 | _=>.non
theorem BE (n:∀c ∈ a,lS c) (L:Lc) (j:Nat) (e:j < L.length) (S:aD):bb (ag j) fm (ab al (vv j) (vi 3)) a L S=some (a.map nN,S):=by
 rw [bI (p:=fun _=>true) (f:=nN) (Inv:=fun h=>∃d,h=L.set j d) (fun v k h s=>?_) ⟨L[j],(iy e).symm⟩]
 .rw [eP]
 .obtain⟨d,rfl⟩:=s;obtain⟨x,lo,i,t,b,_,_,_,_,rfl⟩:=n v k;have g:((L.set j d).set j (qp (.tup [.str x,.int lo,.int i,.int t])))[j]? = some (qp (.tup [.str x,.int lo,.int i,.int t])):=by
   rw [dP (by simpa using e)]
  exact⟨_,rfl,⟨_,List.set_set ..⟩,rfl,fun _=>by simp [-List.set_set,g,nN]⟩
theorem EG (a b c d e f:P):L2.atI [a,b,c,d,e,f] 3=some d:=aU (by decide) rfl
theorem IE (a b c d e f:P):L2.atI [a,b,c,d,e,f] 4=some e:=aU (by decide) rfl
theorem wu (B A:Str->GF) (S:∀f ∈ s,d6 m f) (o i:P):∀(n:List (Nat×P)) (h:List P) (g d u:Option D),(∀x ∈ n,s[x.1]? = some x.2)->h.length+n.length≤1000 ->
  ∃q b v,aO (ag 2) (iT B A) (n.map fun x=>P.int (x.1:Int)) [qp (.tup [.lst s,o,i]),some (.ref 0),g,d,u] [.lst (h.map .p)] =
   some (.nx,[qp (.tup [.lst s,o,i]),some (.ref 0),q,b,v],[.lst ((h++n.map fun x=>ga x.2).map .p)])
 | [],h,g,d,u,_,_=>⟨g,d,u,by simp [aO]⟩
 | x::n,h,g,d,u,K,G=>by
  simp only [bc] at G;obtain⟨p,f⟩:=x;have F:s[p]? = some f:=K (p,f) List.mem_cons_self;obtain⟨H,c,r,a,w,t,k,rfl⟩:=S f (bF F);have E:=bu F;obtain⟨q,b,v,e⟩:=wu B A S o i n (h++[ga (.tup [.str H,.int (c:Int),.lst r,.lst a,.lst w,.lst t])]) (qi (p:Int)) (ql a) (ql w) (fun y I=>K y (aY _ I)) (by simp;lia);refine⟨q,b,v,?_⟩;rw [List.map_cons,List.map_cons,show h++ga (.tup [.str H,.int (c:Int),.lst r,.lst a,.lst w,.lst t])::n.map (fun x=>ga x.2)=h++[ga (.tup [.str H,.int (c:Int),.lst r,.lst a,.lst w,.lst t])]++n.map (fun x=>ga x.2) by simp];refine (bf (s:=[qp (.tup [.lst s,o,i]),some (.ref 0),qi (p:Int),d,u]) rfl ?_).trans e;have C:=BE k.hce.1 [qp (.tup [.lst s,o,i]),some (.ref 0),qi (p:Int),ql a,ql w,none] 5 (by simp) [.lst (h.map .p)];have j:a.length≤1000000:=by have:=k.cl;lia
  have z:w.length≤1000000/\w.length < 1000000:=by have:=k.wl;lia
  have l:h.length≤1000000:=by lia
  rw [<- cm];simp [iT,E,EG,IE,aX,j,kj,C,bD,b_,cE,z,c_,l,ga]
theorem Ah (w:4≤n) (h:Pln f s y):pureOf (Ph n "begin") [.tup [.lst f,.lst s,.lst y]]=some (.tup [.tup ((av f).map ga),.tup (List.replicate (a6 (ar f) s).length (.tup []))]):=by
 obtain⟨n,rfl⟩:=fR (n:=n) (by first | assumption | lia);have c:=vZ (n:=n+1) (by lia) h.hf h.f0.2 (.lst s) (.lst y);have a:=A8 (n:=n+1) (by lia) h;have q:=uI 0 h.hf;have l:=h.f0.2;obtain⟨z,o,H,e⟩:=wu (Ph (n+1)) (Ph n) h.hf (.lst s) (.lst y) (hw 0 f) [] none none none (fun x d=>by obtain⟨j,a,t⟩:=lp d;rw [a,eF];exact t) (by simp;lia);have v:(a6 (ar f) s).length≤2048:=by
  have N:(ar f).length≤16:=aM (lr h) (by decide);have b:∀m:List P,(a6 (ar f) m).length≤256 * m.length:=by
   intro m;induction m with
   | nil=>simp [a6]
   | cons r m g=>have:=k_ (ar f) r N;rw [show a6 (ar f) (r::m)=tW (ar f) r++a6 (ar f) m by simp [a6],List.length_append,bc];lia
  have:=b s;have:=h.rl
  lia
 have p:(a6 (ar f) s).length≤1000000:=by lia
 have k:(a6 (ar f) s).length < 1000000:=by lia
 rw [xy,ai];simp only [fu,gA] at e;rw [show (hw 0 f).map (fun x=>P.int (x.1:Int))=homes f from rfl,show (hw 0 f).map (fun x=>ga x.2)=(av f).map ga by simp [av]] at e;have i:∀vs:List P,toP 9 (.ref 0) [.lst (vs.map .p)]=some (.lst vs,[.fz (.lst vs)]):=yi;generalize (av f).map ga=u at e ⊢;simp [pH,c,a,e,bD,b_,cE,p,k]
end
noncomputable def jC (S:aD) (j:Nat) (xs:List P):Prop:=S[j]? = some (.lst (xs.map .p))\/S[j]? = some (.fz (.lst xs))
variable {xs:List P}{c:List P}
theorem zc (h:xs.map D.p=c.map D.p):xs=c:=(List.map_inj_right (f:=D.p) fun _ _ h=>D.p.inj h).mp h
variable {S:aD}{j:Nat}
theorem jC.lt (h:jC S j xs):j < S.length:=by rcases h with h | h <;> exact (List.getElem?_eq_some_iff.mp h).1
theorem jC.frz (h:jC S j xs):toP 9 (.ref j) S=some (.lst xs,S.set j (.fz (.lst xs))):=by
 rcases h with h | h
 .exact ee h
 .have:S.set j (.fz (.lst xs))=S:=by
   obtain⟨a,x⟩:=List.getElem?_eq_some_iff.mp h;rw [<- x,iy]
  rw [this];simp [toP,h]
variable {L:Lc}
theorem jC.ix (h:jC S j xs){i:Int} (r:s L S=some (.ref j,S)) (x:k L S=some (.int i,S)) (e:L2.atI xs i=some f):tX s k L S=some (.p f,S):=by
 rw [jw,r,aw,x,aw];rcases h with h | h
 .simp only [h];rw [wv,e];rfl
 .simp only [h];show (L2.atI xs i).map _=_;rw [e];rfl
theorem jC.len (h:jC S j xs):b_ (.ref j) S=some xs.length:=by rcases h with h | h <;> simp [b_,h,cE]
structure Fr (b:Nat) (S S':aD):Prop where
 len:S.length≤S'.length
 low:∀k o,k < b->S[k]? = some o->S'[k]? = some o\/∃xs,o=.lst (xs.map .p)/\S'[k]? = some (.fz (.lst xs))
 hi:∀k o,b≤k->S[k]? = some o->S'[k]? = some o
theorem Fr.refl (b:Nat) (S:aD):Fr b S S:=⟨Nat.le_refl _,fun _ _ _ h=>.inl h,fun _ _ _ h=>h⟩
variable {b:Nat}{x:aD}
theorem Fr.trans (h:Fr b S x) (g:Fr b x f):Fr b S f:=by
 refine⟨aM h.len g.len,fun k o a e=>?_,fun k o a e=>g.hi k o a (h.hi k o a e)⟩;rcases h.low k o a e with s | ⟨xs,rfl,s⟩
 .exact g.low k o a s
 .rcases g.low k _ a s with s | ⟨c,q,_⟩
  .exact .inr ⟨xs,rfl,s⟩
  .cases q
theorem Fr.app (b:Nat) (S T:aD):Fr b S (S++T):=by
 have y:∀k o,S[k]? = some o->(S++T)[k]? = some o:=fun k o e=>by rw [List.getElem?_append_left (aW e)];exact e
 exact⟨by simp,fun k o _ e=>.inl (y k o e),fun k o _ e=>y k o e⟩
variable {k:Nat}
theorem Fr.set (h:Fr b S x) (s:b≤S.length) (n:S.length≤k) (o:SO):Fr b S (x.set k o):=by
 refine⟨by rw [eG];exact h.len,fun j u a e=>?_,fun j u a e=>?_⟩
 .rw [a7 (by lia)];exact h.low j u a e
 .have:=aW e;rw [a7 (by lia)];exact h.hi j u a e
theorem Fr.frz (a:j < b) (h:jC S j xs):Fr b S (S.set j (.fz (.lst xs))):=by
 refine⟨by simp,fun k o x e=>?_,fun k o x e=>?_⟩
 .by_cases q:j=k
  .subst q;rw [dP h.lt];rcases h with h | h <;> (rw [h] at e;cases e)
   .exact .inr ⟨xs,rfl,rfl⟩
   .exact .inl rfl
  .rw [a7 q];exact .inl e
 .rw [a7 (by lia)];exact e
theorem Fr.trunc (h:Fr b S x):Fr b S (trunc S.length x):=by
 unfold Ev.trunc;split
 .refine⟨by rw [iu];have:=h.len;lia,fun k o a e=>?_,fun k o a e=>?_⟩
  .rw [iz (aW e)];exact h.low k o a e
  .rw [iz (aW e)];exact h.hi k o a e
 .exact h
theorem jC.fr (h:Fr b S x) (g:jC S j xs):jC x j xs:=by
 by_cases a:j < b
 .rcases g with g | g
  .rcases h.low j _ a g with e | ⟨c,q,e⟩
   .exact .inl e
   .have:xs=c:=zc (SO.lst.inj q);subst this;exact .inr e
  .rcases h.low j _ a g with e | ⟨c,q,e⟩
   .exact .inr e
   .cases q
 .rcases g with g | g
  .exact .inl (h.hi j _ (by lia) g)
  .exact .inr (h.hi j _ (by lia) g)
noncomputable def lI (S x:aD) (d:D) (c:List P):Prop:=d=.p (.lst c)\/∃k,S.length≤k/\d=.ref k/\jC x k c
variable {d:D}
theorem lI.toP (h:lI S x d c) (f:Fr b S x) (e:b≤S.length):∃a,toP 9 d x=some (.lst c,a)/\Fr b S a:=by
 rcases h with rfl | ⟨k,s,rfl,h⟩
 .exact⟨x,by simp,f⟩
 .exact⟨_,h.frz,f.set e s _⟩
variable {g:GF}{q:oh}{l:List D}
theorem oa (s:q L S=some (l,S)) (k:g l S=some (d,x)) (r:Fr b S x) (n:b≤S.length) (h:lI S x d c):∃a,cD g q L S=some (.lst c,a)/\Fr b S a:=by obtain⟨m,e,f⟩:=h.toP r n;exact⟨_,by rw [oY,s,aw,k,aw,e,aw],f.trunc⟩
theorem z5 (a:q L S=some (l,S)) (s:g l S=some (.p e,x)) (f:Fr b S x):∃h,cD g q L S=some (e,h)/\Fr b S h:=
 ⟨_,by rw [oY,a,aw,s,aw];rfl,f.trunc⟩
structure BD where
 fams:List P
 roads:List P
 wishes:List P
 ks:List (List bz)
 vs:List D
noncomputable def BD.N (B:BD):LS:=ar B.fams
noncomputable def BD.PR (B:BD):List P:=a6 B.N B.roads
noncomputable def fields:LS:=["families","homes","pairs","places","members"]
structure Bat (B:BD) (b i jh jp jl jm:Nat) (mk:List bz) (mv:List D) (S:aD):Prop where
 ins:S[i]? = some (.ins "Board" fields [.p (.lst B.fams),.ref jh,.ref jp,.ref jl,.ref jm])
 ho:jC S jh (homes B.fams)
 pr:jC S jp B.PR
 pl:S[jl]? = some (.dtt B.ks B.vs)
 me:S[jm]? = some (.dct mk mv)
 mm:∀s ∈ B.N,∃j,j < b/\bM (.inr s) mk mv=some (.ref j)/\jC S j (bG (bX B.N s))
 bi:i < b
 bh:jh < b
 bp:jp < b
 bl:jl < b
 bm:jm < b
 bs:b≤S.length
noncomputable def Bd (B:BD) (b i:Nat) (S:aD):Prop:=∃p v r t w u,Bat B b i p v r t w u S
theorem Bat.fr {B:BD}{b i p v r t:Nat}{w:List bz}{u:List D}{S x:aD} (h:Bat B b i p v r t w u S) (f:Fr b S x):Bat B b i p v r t w u x where
 ins:=by rcases f.low i _ h.bi h.ins with e | ⟨_,q,_⟩;exact e;cases q
 ho:=h.ho.fr f
 pr:=h.pr.fr f
 pl:=by rcases f.low r _ h.bl h.pl with e | ⟨_,q,_⟩;exact e;cases q
 me:=by rcases f.low t _ h.bm h.me with e | ⟨_,q,_⟩;exact e;cases q
 mm:=fun s c=>by obtain⟨j,a,n,k⟩:=h.mm s c;exact⟨j,a,n,k.fr f⟩
 bi:=h.bi
 bh:=h.bh
 bp:=h.bp
 bl:=h.bl
 bm:=h.bm
 bs:=aM h.bs f.len
theorem Bd.fr {B:BD}{b i:Nat}{S x:aD} (h:Bd B b i S) (f:Fr b S x):Bd B b i x:=by obtain⟨p,v,r,t,w,u,h⟩:=h;exact⟨p,v,r,t,w,u,h.fr f⟩
theorem Bd.le {B:BD}{b i:Nat}{S:aD} (h:Bd B b i S):b≤S.length:=by obtain⟨p,v,r,t,w,u,h⟩:=h;exact h.bs
section
variable {B:BD}{b i p v r t:Nat}{w:List bz}{u:List D}{S:aD}{L:Lc}{o:EE}
theorem Bat.fld (h:Bat B b i p v r t w u S) (ho:o L S=some (.ref i,S)) (a:aT Att "Board" f=true) (x:gI f fields [.p (.lst B.fams),.ref p,.ref v,.ref r,.ref t]=some d):dF (aT Att) o f L S=some (d,S):=by rw [BL,ho,aw];simp only [h.ins];rw [if_pos a,x];rfl
end
theorem jL:aT Att "Board" "families"=true/\aT Att "Board" "homes"=true/\aT Att "Board" "pairs"=true/\aT Att "Board" "places"=true/\aT Att "Board" "members"=true:=by decide +kernel
theorem Br {a b c d e:D}:gI "families" fields [a,b,c,d,e]=some a/\gI "homes" fields [a,b,c,d,e]=some b/\gI "pairs" fields [a,b,c,d,e]=some c/\gI "places" fields [a,b,c,d,e]=some d/\gI "members" fields [a,b,c,d,e]=some e:=by
 have h:¬("families":Str)="homes":=by decide +kernel
 have x:¬("families":Str)="pairs":=by decide +kernel
 have s:¬("families":Str)="places":=by decide +kernel
 have k:¬("families":Str)="members":=by decide +kernel
 have f:¬("homes":Str)="pairs":=by decide +kernel
 have m:¬("homes":Str)="places":=by decide +kernel
 have r:¬("homes":Str)="members":=by decide +kernel
 have t:¬("pairs":Str)="places":=by decide +kernel
 have p:¬("pairs":Str)="members":=by decide +kernel
 have n:¬("places":Str)="members":=by decide +kernel
 simp [fields,gI,h,x,s,k,f,m,r,t,p,n]
section
variable {B:BD}{b i p v r t:Nat}{w:List bz}{u:List D}{S:aD} (h:Bat B b i p v r t w u S) {L:Lc}{o:EE} (ho:o L S=some (.ref i,S))
include h ho
theorem Bat.families:dF (aT Att) o "families" L S=some (.p (.lst B.fams),S):=h.fld ho jL.1 Br.1
theorem Bat.homes:dF (aT Att) o "homes" L S=some (.ref p,S):=h.fld ho jL.2.1 Br.2.1
theorem Bat.pairs:dF (aT Att) o "pairs" L S=some (.ref v,S):=h.fld ho jL.2.2.1 Br.2.2.1
theorem Bat.places:dF (aT Att) o "places" L S=some (.ref r,S):=h.fld ho jL.2.2.2.1 Br.2.2.2.1
theorem Bat.members:dF (aT Att) o "members" L S=some (.ref t,S):=h.fld ho jL.2.2.2.2 Br.2.2.2.2
theorem Bat.meth (m:M "Board" e=some g) (n:fields.contains e=false) (a:q L S=some (l,S)):dA M o e q L S=g (.ref i::l) S:=by rw [ie,ho,aw];simp only [h.ins,m,n,a,aw];rfl
end
@[simp] theorem Ie:¬("name":Str)="number"/\¬("plus":Str)="number"/\¬("plus":Str)="name"/\¬("minus":Str)="number"/\¬("minus":Str)="name"/\¬("minus":Str)="plus"/\¬("times":Str)="number"/\¬("times":Str)="name"/\¬("times":Str)="plus"/\¬("times":Str)="minus" /\
  ¬("not":Str)="true"/\¬("and":Str)="true"/\¬("and":Str)="not"/\¬("or":Str)="true"/\¬("or":Str)="not"/\¬("or":Str)="and"/\¬("is":Str)="true"/\¬("is":Str)="not"/\¬("is":Str)="and"/\¬("is":Str)="or" /\
  ¬("double":Str)="lose"/\¬("all":Str)="who"/\¬("any":Str)="who"/\¬("any":Str)="all"/\¬("weak":Str)="strong"/\¬("strong":Str)="weak"/\¬("heap":Str)="row"/\¬("row":Str)="heap":=by decide +kernel
theorem cW (h:xs.length+c.length≤1000000):aq (.tup xs) (.tup c)=some (.tup (xs++c)):=by
 cases xs with
 | nil=>rfl
 | cons x r=>show (if (!(x::r).isEmpty && fZ ((x::r).length+c.length))=true then some (P.tup ((x::r)++c)) else none)=_;rw [if_pos (by rw [Bool.and_eq_true,kK];exact⟨rfl,h⟩)]
theorem kc (k:Nat):cut xs none (some (k:Int))=xs.take k:=by
 unfold cut;rw [HT.sh,HT.vu,mB,Nat.sub_zero];by_cases h:k≤xs.length
 .rw [Nat.min_eq_left h]
 .rw [Nat.min_eq_right (by lia),pL,List.take_of_length_le (by lia)]
theorem n0 (k:Nat):cut xs (some (k:Int)) none=xs.drop k:=by
 unfold cut;rw [HT.sh,HT.vu];by_cases h:k≤xs.length
 .rw [Nat.min_eq_left h,List.take_of_length_le (by simp)]
 .rw [Nat.min_eq_right (by lia),pX,List.drop_of_length_le (by lia)];simp
theorem ig (k:Nat):cut xs (some ((k:Int)+1)) none=xs.drop (k+1):=n0 (k+1)
theorem BO (k:Nat):cut xs none (some ((k:Int)+1))=xs.take (k+1):=kc (k+1)
variable {n:Nat}
theorem np (a:2≤n) (x:k < xs.length) (l:xs.length≤900000) (v:P):pureOf (Ph n "replaced") [.tup xs,.int (k:Int),v]=some (.tup (xs.set k v)):=by obtain⟨n,rfl⟩:=fR (n:=n) (by first | assumption | lia);have e:=cW (xs:=xs.take k) (c:=[v]) (by simp;lia);have h:=cW (xs:=xs.take k++[v]) (c:=xs.drop (k+1)) (by simp;lia);rw [gi,ai];simp [fg,kc,ig,e,-List.append_assoc];rw [h];simp [u_,x]
theorem B5 (x:2≤n) (h:xs.length≤900000):pureOf (Ph n "without") [.tup xs,.int (k:Int)]=some (.tup (xs.eraseIdx k)):=by obtain⟨n,rfl⟩:=fR (n:=n) (by first | assumption | lia);have e:=cW (xs:=xs.take k) (c:=xs.drop (k+1)) (by simp;lia);rw [gX,ai];simp [fO,kc,ig,e,u7]
noncomputable def lR (l:P):Prop:=∃m i,PyData.strOk m=true/\i.natAbs≤999/\l=.tup [.str m,.int i]
theorem lR.ok (h:lR e):bR 1 e=true:=by obtain⟨m,i,x,_,rfl⟩:=h;simp [x]
noncomputable def iW (s:List P):Prop:=s.length≤3/\∀l ∈ s,lR l
noncomputable def sU (w:Str) (xs:List P) (k:Nat):List P:=if w="lose" then xs.eraseIdx k else xs.take (k+1)++xs.drop k
theorem Cw {n:Nat} (b:3≤n) {w:Str} (hw:w="lose"\/w="double") {xs:List P}{k:Nat} (x:iW xs) (a:w="double"->xs.length≤2) (f:k < xs.length):iW (sU w xs k)/\pureOf (Ph n "flawed") [.str w,.tup xs,.int (k:Int)]=some (.tup (sU w xs k)):=by
 obtain⟨n,rfl⟩:=fR (n:=n) (by first | assumption | lia);have:=x.1
 unfold sU;rcases hw with rfl | rfl
 .refine⟨⟨aM (List.length_eraseIdx_le ..) this,fun l h=>x.2 l (List.mem_of_mem_eraseIdx h)⟩,?_⟩;have e:=B5 (n:=n+1) (by lia) (xs:=xs) (k:=k) (by lia);rw [nR,ai];simp [kg,e]
 .have s:=a rfl;rw [if_neg (by decide +kernel)];refine⟨⟨by simp;lia,fun l h=>?_⟩,?_⟩
  .rcases cC.mp h with h | h
   .exact x.2 l (mZ h)
   .exact x.2 l (qc h)
  .have e:=cW (xs:=xs.take (k+1)) (c:=xs.drop k) (by simp;lia);rw [nR,ai];simp [kg,BO,n0,e]
noncomputable def hR (w:Str) (r:P) (xs:List P):Bool:=match r with
 | .tup [_,_,_,.int c,.bl d,.bl h]=>if w="lose" then d else h && decide ((xs.length:Int) < c)
 | _=>false
theorem Cq {n:Nat} (g:2≤n) {w:Str} (hw:w="lose"\/w="double") {r:P} (q:e_ r) (xs:List P):(w="double"->hR w r xs=true->xs.length≤2)/\pureOf (Ph n "has_flaw") [r,.str w,.tup xs]=some (.bl (hR w r xs)):=by
 obtain⟨n,rfl⟩:=fR (n:=n) (by first | assumption | lia);obtain⟨a,b,k,c,x,d,v,u,p,m,t,rfl⟩:=q;have e:L2.atI [P.str a,.str b,.str k,.int c,.bl x,.bl d] 3=some (.int c):=aU (by decide) rfl;have s:L2.atI [P.str a,.str b,.str k,.int c,.bl x,.bl d] 4=some (.bl x):=aU (by decide) rfl;have f:L2.atI [P.str a,.str b,.str k,.int c,.bl x,.bl d] 5=some (.bl d):=aU (by decide) rfl;unfold hR;rcases hw with rfl | rfl
 .refine⟨fun h=>?_,?_⟩
  .have:¬("lose":Str)="double":=by decide +kernel
   exact absurd h this
  .rw [kI,ai];simp [iR,s]
 .dsimp only;rw [if_neg (by decide +kernel)];refine⟨fun _ h=>?_,?_⟩
  .have:=(Bool.and_eq_true _ _ ▸ h).2;have:=of_decide_eq_true this
   lia
  .rw [kI,ai];cases d <;> simp [iR,e,f,b_,cE]
theorem kF (h:∀y ∈ xs,bR 19 y=true) (x:s ∈ xs):∃i:Nat,i < xs.length/\gP xs s=some i:=by
 unfold gP;have a:(xs.all (bR 19) && bR 19 s)=true:=by rw [Bool.and_eq_true];exact⟨bn.mpr h,h s x⟩
 rw [if_pos a];have m:pd s ∈ lg xs:=by
  clear a h;induction xs with
  | nil=>cases x
  | cons y r n=>
   rcases bj.mp x with rfl | x
   .exact List.mem_cons_self
   .exact aY _ (n x)
 have e:PyData.eqv (pd s) (pd s)=true:=pQ _ (eX 20 s (br (h s x) (by lia))).1;cases q:(lg xs).findIdx? fun z=>PyData.eqv z (pd s) with
 | none=>have:=List.findIdx?_eq_none_iff.mp q (pd s) m;rw [e] at this;cases this
 | some i=>
  refine⟨i,?_,rfl⟩;have:=(u9.mp q).1
  rwa [qx] at this
noncomputable def G6 (n:Nat) (y:P):Prop:=∃i:Nat,i < n/\y=.int (i:Int)
theorem zy (n:Nat):intsFrom 0 n=bG (List.range n):=by unfold Ev.intsFrom bG;simp only [c8]
noncomputable def sd (k:Str) (xs:List P):List Nat:=(List.range xs.length).filter fun i=>decide (k="row") || decide (gP xs (xs[i]?.getD .non)=some i)
theorem B7 (S:2≤n) (k:Str) (r:iW xs):pureOf (Ph n "unlike_spots") [.str k,.tup xs]=some (.lst (bG (sd k xs))):=by
 obtain⟨n,rfl⟩:=fR (n:=n) (by first | assumption | lia);have o:=r.1;have m:xs.length < 1000000:=by lia
 have b:xs.length≤1000000:=by lia
 by_cases h:k="row"
 .have e:sd k xs=List.range xs.length:=by unfold sd;rw [mX.mpr fun _ _=>by simp [h]]
  rw [e,<- zy,cT,ai];simp [cg,h,b_,cE,m]
 .have e:bb (ag 3) (bV (aA dC (eV (l8 (vv 1) (ab al (vv 1) (vv 3)))) (aa 3))) (vv 3) (intsFrom 0 xs.length) [qs k,qp (.tup xs),ql (intsFrom 0 xs.length),none] []=some (bG (sd k xs),[]):=by
   rw [bI (p:=fun v=>match v with | .int z=>decide (gP xs (xs[z.toNat]?.getD .non)=some z.toNat) | _=>false) (f:=id) (Inv:=fun L=>∃d,L=[qs k,qp (.tup xs),ql (intsFrom 0 xs.length),d]) (fun v w L t=>?_) ⟨none,rfl⟩,mw]
   .rw [zy];unfold bG sd;rw [mE];congr 3;refine List.filter_congr fun i _=>?_;simp [h]
   obtain⟨d,rfl⟩:=t;obtain⟨i,rfl,s⟩:=fM w;simp only [c8];have g:xs[i]? = some xs[i]:=cR s;have c:=bu g;obtain⟨j,H,a⟩:=kF (xs:=xs) (s:=xs[i]) (fun y u=>br (r.2 y u).ok (by lia)) (gD _);refine⟨[qs k,qp (.tup xs),ql (intsFrom 0 xs.length),qi (i:Int)],rfl,⟨_,rfl⟩,?_,fun _=>by simp⟩;by_cases q:j=i
   .rw [q] at a;simp [c,a,g]
   .have l:¬(j:Int)=(i:Int):=by lia
    simp [c,a,g,q,l]
  rw [cT,ai];simp [cg,h,b_,cE,m,b,aX,bH,kj,e]
theorem FF (x:2≤n) (k:Str) (a:iW xs):∃c:List P,c.length≤xs.length/\(∀y ∈ c,G6 xs.length y)/\pureOf (Ph n "unlike_spots") [.str k,.tup xs]=some (.lst c):=
 ⟨_,by unfold bG sd;rw [b8];exact aM (iw ..) (by simp),fun y e=>by obtain⟨i,h,rfl⟩:=bA.mp e;exact⟨i,jZ.mp (fU.mp h).1,rfl⟩,B7 x k a⟩
noncomputable def kS (N:List P) (ks:List bz) (vs:List P):Prop:=∀x:Str,P.str x ∈ N->∃i:Int,i.natAbs≤999/\bM (.inr x) ks vs=some (.int i)
section
variable {N:List P}{ks:List bz}{vs:List P}
theorem oV (h:2≤n) (k:Int):pureOf (Ph n "value_of") [lh k,.dct ks vs]=some (.int k):=by obtain⟨n,rfl⟩:=fR (n:=n) (by first | assumption | lia);rw [cz,ai];simp [bO]
theorem oW (x:2≤n){i:Int} (h:bM (.inr e) ks vs=some (.int i)):pureOf (Ph n "value_of") [l_ (.str e),.dct ks vs]=some (.int i):=by obtain⟨n,rfl⟩:=fR (n:=n) (by first | assumption | lia);rw [cz,ai];simp [bO,h]
theorem CT {n:Nat} (e:3≤n) {a b:P}{i j:Int} (h:pureOf (Ph (n-1) "value_of") [a,.dct ks vs]=some (.int i)) (x:pureOf (Ph (n-1) "value_of") [b,.dct ks vs]=some (.int j)):pureOf (Ph n "value_of") [.tup [.str "plus",a,b],.dct ks vs]=some (.int (i+j)):=by obtain⟨n,rfl⟩:=fR (n:=n) (by first | assumption | lia);rw [show n+2-1=n+1 by lia] at h x;rw [cz,ai];simp [bO,h,x]
theorem vf {n:Nat} (e:3≤n) {a b:P}{i j:Int} (h:pureOf (Ph (n-1) "value_of") [a,.dct ks vs]=some (.int i)) (x:pureOf (Ph (n-1) "value_of") [b,.dct ks vs]=some (.int j)):pureOf (Ph n "value_of") [.tup [.str "minus",a,b],.dct ks vs]=some (.int (i-j)):=by obtain⟨n,rfl⟩:=fR (n:=n) (by first | assumption | lia);rw [show n+2-1=n+1 by lia] at h x;rw [cz,ai];simp [bO,h,x]
theorem AD {n:Nat} (e:3≤n) {a b:P}{i j:Int} (m:fq i j=true) (h:pureOf (Ph (n-1) "value_of") [a,.dct ks vs]=some (.int i)) (x:pureOf (Ph (n-1) "value_of") [b,.dct ks vs]=some (.int j)):pureOf (Ph n "value_of") [.tup [.str "times",a,b],.dct ks vs]=some (.int (i * j)):=by obtain⟨n,rfl⟩:=fR (n:=n) (by first | assumption | lia);rw [show n+2-1=n+1 by lia] at h x;rw [cz,ai];simp [bO,h,x,m]
theorem m7 (s:∀x ∈ N,i8 x) (f:kS N ks vs) {t:P} (h:nG N t) {n:Nat} (p:4≤n):∃r:Int,pureOf (Ph n "value_of") [t,.dct ks vs]=some (.int r):=by
 rcases h with ⟨k,rfl⟩ | ⟨y,a,h⟩
 .exact⟨k,oV (by lia) k⟩
 obtain⟨x,_,rfl⟩:=s y a;obtain⟨i,m,e⟩:=f x a;rcases h with rfl | ⟨k,rfl⟩ | ⟨k,j,b,c,rfl⟩ | rfl
 .exact⟨i,oW (by lia) e⟩
 .exact⟨_,CT (by lia) (oW (by lia) e) (oV (by lia) k)⟩
 .exact⟨_,vf (by lia) (AD (by lia) (bw (i:=i) (j:=k) (by lia) (by lia)) (oW (by lia) e) (oV (by lia) k)) (oV (by lia) j)⟩
 .exact⟨_,vf (by lia) (oV (by lia) 1) (oW (by lia) e)⟩
theorem Ey (k:2≤n) (w:Str) (i j:Int):∃b,pureOf (Ph n "compared") [.str w,.int i,.int j]=some (.bl b):=by
 obtain⟨n,rfl⟩:=fR (n:=n) (by first | assumption | lia);rw [gj,ai];by_cases h:w="="
 .simp [bQ,h]
 by_cases x:w="!="
 .refine⟨!decide (i=j),?_⟩;simp [bQ,h,eq_true x]
 by_cases a:w="<"
 .simp [bQ,h,x,eq_true a]
 by_cases e:w="<="
 .simp [bQ,h,x,a,eq_true e]
 by_cases s:w=">"
 .simp [bQ,h,x,a,e,eq_true s]
 simp [bQ,h,x,a,e,s]
theorem zF (h:2≤n):pureOf (Ph n "holds") [.tup [.str "true"],.dct ks vs]=some (.bl true):=by obtain⟨n,rfl⟩:=fR (n:=n) (by first | assumption | lia);rw [eR,ai];simp [dm]
theorem Ha {n:Nat} (s:6≤n) (w:Str) {a b:P}{i j:Int} (h:pureOf (Ph (n-1) "value_of") [a,.dct ks vs]=some (.int i)) (x:pureOf (Ph (n-1) "value_of") [b,.dct ks vs]=some (.int j)):∃r,pureOf (Ph n "holds") [.tup [.str "is",.str w,a,b],.dct ks vs]=some (.bl r):=by obtain⟨n,rfl⟩:=fR (n:=n) (by first | assumption | lia);rw [show n+2-1=n+1 by lia] at h x;obtain⟨r,e⟩:=Ey (n:=n+1) (by lia) w i j;refine⟨r,?_⟩;rw [eR,ai];simp [dm,h,x,e]
theorem G' (x:3≤n) (h:pureOf (Ph (n-1) "holds") [e,.dct ks vs]=some (.bl s)):pureOf (Ph n "holds") [.tup [.str "not",e],.dct ks vs]=some (.bl !s):=by obtain⟨n,rfl⟩:=fR (n:=n) (by first | assumption | lia);rw [show n+2-1=n+1 by lia] at h;rw [eR,ai];simp [dm,h]
theorem Hb {n:Nat} (e:3≤n) {a b:P}{r s:Bool} (h:pureOf (Ph (n-1) "holds") [a,.dct ks vs]=some (.bl r)) (x:pureOf (Ph (n-1) "holds") [b,.dct ks vs]=some (.bl s)):pureOf (Ph n "holds") [.tup [.str "and",a,b],.dct ks vs]=some (.bl (r && s)):=by obtain⟨n,rfl⟩:=fR (n:=n) (by first | assumption | lia);rw [show n+2-1=n+1 by lia] at h x;rw [eR,ai];cases r <;> simp [dm,h,x]
theorem J4 {n:Nat} (e:3≤n) {a b:P}{r s:Bool} (h:pureOf (Ph (n-1) "holds") [a,.dct ks vs]=some (.bl r)) (x:pureOf (Ph (n-1) "holds") [b,.dct ks vs]=some (.bl s)):pureOf (Ph n "holds") [.tup [.str "or",a,b],.dct ks vs]=some (.bl (r || s)):=by obtain⟨n,rfl⟩:=fR (n:=n) (by first | assumption | lia);rw [show n+2-1=n+1 by lia] at h x;rw [eR,ai];cases r <;> simp [dm,h,x]
theorem zD (k:∀x ∈ N,i8 x) (f:kS N ks vs) {t:P} (h:nJ N t) {n:Nat} (b:9≤n):∃r,pureOf (Ph n "holds") [t,.dct ks vs]=some (.bl r):=by
 have l:∀{t:P},iM N t->∀{n:Nat},6≤n->∃r,pureOf (Ph n "holds") [t,.dct ks vs]=some (.bl r):=fun {t} h {n} b=>by obtain⟨w,y,s,c,d,_,rfl⟩:=h;obtain⟨x,_,rfl⟩:=k y c;obtain⟨i,_,a⟩:=f x c;obtain⟨j,v⟩:=m7 k f d (n:=n-1) (by lia);exact Ha b w (oW (by lia) a) v
 rcases h with rfl | h | ⟨p,h,rfl⟩ | ⟨p,z,h,m,rfl⟩
 .exact⟨_,zF (by lia)⟩
 .exact l h (by lia)
 .obtain⟨r,e⟩:=l h (n:=n-1) (by lia);exact⟨_,G' (by lia) e⟩
 .obtain⟨r,e⟩:=l h (n:=n-1) (by lia);obtain⟨x,_,rfl⟩:=k z m;obtain⟨i,_,a⟩:=f x m;obtain⟨s,q⟩:=Ha (n:=n-1-1) (ks:=ks) (vs:=vs) (by lia) "=" (oV (by lia) 1) (oW (by lia) a);exact⟨_,J4 (by lia) e (Hb (by lia) (zF (by lia)) q)⟩
end
noncomputable def cG (a:List P):List bz:=a.map fun c=>.inr (a8 c)
noncomputable def CellsOk (a s:List P):Prop:=s.length=a.length/\∀c ∈ s,∃i:Int,i.natAbs≤999/\c=.int i
variable {a:List P}
theorem jq (h:tU a):(cG a).Nodup:=by
 unfold cG;refine List.pairwise_iff_getElem.mpr fun i j e s k q=>?_
 rw [b8] at e s;rw [List.getElem_map,List.getElem_map] at q;have x:=h.2 i _ (cR e);have n:=h.2 j _ (cR s);rw [i_ q,n] at x;simp at x;lia
theorem uE (a:List P):cn (oq a)=some (cG a):=by
 unfold oq cG;induction a with
 | nil=>rfl
 | cons c r i=>simp [cn,cd,i]
theorem qE:∀{a k:List P},CellsOk a k->kS (oq a) (cG a) k
 | [],_,_=>fun x h=>by cases h
 | c::r,[],h=>by have:=h.1;simp at this
 | c::r,d::s,h=>fun x p=>by
  obtain⟨i,m,rfl⟩:=h.2 d List.mem_cons_self;show ∃i:Int,_/\(if (Sum.inr (a8 c):bz)=.inr x then some _ else bM (.inr x) (cG r) s)=_;by_cases e:a8 c=x
  .exact⟨i,m,by rw [if_pos (by rw [e])]⟩
  .have n:P.str x ∈ oq r:=by
    rcases bj.mp p with q | q
    .exact absurd (P.str.inj q).symm e
    .exact q
   obtain⟨j,t,f⟩:=qE (a:=r) (k:=s) ⟨by have:=h.1;simpa using this,fun c b=>h.2 c (aY _ b)⟩ x n;exact⟨j,t,by rw [if_neg fun q=>e (i_ q)];exact f⟩
theorem vc (v:2≤n) (h:Fam m H f s a y e) (c:CellsOk a z) (S:aD) :
  Ph n "values_of" [.p (.tup [.str H,.int (f:Int),.lst s,.lst a,.lst y,.lst e]),.p (.tup z)] S=some (.ref S.length,S++[.dct (cG a) (z.map .p)]):=by
 obtain⟨n,rfl⟩:=fR (n:=n) (by first | assumption | lia);have r:=h.cl;have q:a.length≤1000000:=by lia
 have x:(oq a).length≤1000000:=by simp [oq];lia
 have b:=pu h.hce.1 [qp (.tup [.str H,.int (f:Int),.lst s,.lst a,.lst y,.lst e]),qp (.tup z),none] 2 (by simp) S;have p:=jq h.hce;have k:(cG a).length=z.length:=by rw [c.1];simp [cG]
 have l:(cG a).length≤z.length:=Nat.le_of_eq k;have t:z.take (cG a).length=z:=by rw [k,pL]
 rw [fI];simp [cJ,d8,EG,aX,q,kj,b,uE,p,x,l,t,List.map_take];first | done | (rw [<- List.map_take,t])
theorem wD (k:2≤n) (x:Fam m H y s a z e) (h:CellsOk a f) :
  pureOf (Ph n "values_of") [.tup [.str H,.int (y:Int),.lst s,.lst a,.lst z,.lst e],.tup f]=some (.dct (cG a) f):=by
 unfold pureOf;rw [List.map_cons,List.map_cons,gA,vc k x h []];have:qD (toP 8) (f.map .p) [SO.dct (cG a) (f.map .p)]=some (f,[SO.dct (cG a) (f.map .p)]):=kC ..;simp [toP,this]
end My
namespace My
open PySem L2 Ev
variable {L:Lc}{S:aD}
theorem aj (h:a L S=some (.nx,e,b)):ac a g L S=g e b:=by rw [mG,h]
theorem ut (h:a L S=some (.rt d,e,b)):ac a g L S=some (.rt d,e,b):=by rw [mG,h]
noncomputable def FN (a b:Bool):Nat->Nat->Option Bool
 | 0,0=>some false
 | 0,1=>some a
 | 1,0=>some b
 | 1,1=>some false
 | _,_=>none
noncomputable def FM (a b c d e f:Bool):Nat->Nat->Option Bool
 | 0,0=>some false
 | 0,1=>some a
 | 0,2=>some b
 | 1,0=>some c
 | 1,1=>some false
 | 1,2=>some d
 | 2,0=>some e
 | 2,1=>some f
 | 2,2=>some false
 | _,_=>none
noncomputable def sP (n:Nat) (o:Option (Array Nat)):Bool:=match o with
 | some p=>decide (p.size=n) && p.all fun i=>decide (i < n)
 | none=>false
theorem F6:∀a b,sP 2 (BH (FN a b) (PySem.W.kas_sort 2))=true:=by decide +kernel
theorem F5:∀a b c d e f,sP 3 (BH (FM a b c d e f) (PySem.W.kas_sort 3))=true:=by decide +kernel
variable {x:P}
theorem gS (n:lR x) (k:lR y):∃b,JU x y=some b:=by
 obtain⟨m,i,_,_,rfl⟩:=n;obtain⟨s,e,_,_,rfl⟩:=k;show ∃b,uD [.str m,.int i] [.str s,.int e]=some b;unfold uD;by_cases h:m=s
 .rw [if_pos h];unfold uD;by_cases a:(i == e)=true
  .rw [if_pos a];exact⟨_,rfl⟩
  .rw [if_neg a];exact⟨_,rfl⟩
 .rw [if_neg h];exact⟨_,rfl⟩
theorem kD (h:lR x):JU x x=some false:=by obtain⟨m,i,_,_,rfl⟩:=h;show uD [.str m,.int i] [.str m,.int i]=some false;unfold uD;rw [if_pos rfl];unfold uD;rw [if_pos (by simp)];rfl
variable {n:Nat}
theorem xo (h:sP n o=true):∃p,o=some p/\p.size=n/\∀i ∈ p.toList,i < n:=by
 cases o with
 | none=>cases h
 | some p=>
  unfold sP at h;rw [Bool.and_eq_true] at h;refine⟨p,rfl,of_decide_eq_true h.1,fun i x=>?_⟩;have:=Array.all_eq_true'.mp h.2 i (by simpa using x)
  exact of_decide_eq_true this
theorem o0 (h:iW r):∃t,iW t/\jx r=some (.lst t):=by
 have E:sortable r=true:=by
  unfold sortable;have:r.all nE=true:=bn.mpr fun x k=>by obtain⟨m,i,_,_,rfl⟩:=h.2 x k;rfl
  rw [this,Bool.or_true]
 have o:∃t,iW t/\lK r=some t:=by
  unfold lK;by_cases q:r.length < 2
  .exact⟨r,h,by rw [if_pos q]⟩
  .rw [if_neg q,if_pos (by have:=h.1;lia)];have s:∀n,r.length=n->n≤3->sP n (BH (jj r) (PySem.W.kas_sort n))=true->∃t,iW t/\((BH (jj r) (PySem.W.kas_sort r.length)).bind fun p=>if p.size < 64 then some (p.toList.map fun i=>r.getD i .non) else none)=some t:=fun n C D P=>by
    obtain⟨p,e,G,q⟩:=xo P;refine⟨p.toList.map fun i=>r.getD i .non,⟨by simp;lia,fun l B=>?_⟩,by rw [C,e];simp [show p.size < 64 by lia]⟩;obtain⟨i,A,rfl⟩:=bA.mp B;have:=q i A
    rw [iA,cR (by lia)];exact h.2 _ (gD _)
   match r,h,q,s with
   | [x,y],h,_,s=>
    refine s 2 rfl (by lia) ?_;have k:=h.2 x (by simp);have v:=h.2 y (by simp);obtain⟨a,u⟩:=gS k v;obtain⟨b,g⟩:=gS v k;have:jj [x,y]=FN a b:=by
     funext i j;match i,j with
     | 0,0=>exact kD k
     | 0,1=>exact u
     | 1,0=>exact g
     | 1,1=>exact kD v
     | 0,j+2=>rfl
     | 1,j+2=>rfl
     | i+2,0=>rfl
     | i+2,1=>rfl
     | i+2,j+2=>rfl
    rw [this];exact F6 a b
   | [x,y,z],h,_,s=>
    refine s 3 rfl (by lia) ?_;have k:=h.2 x (by simp);have v:=h.2 y (by simp);have w:=h.2 z (by simp);obtain⟨a,u⟩:=gS k v;obtain⟨b,g⟩:=gS k w;obtain⟨c,H⟩:=gS v k;obtain⟨d,S⟩:=gS v w;obtain⟨e,F⟩:=gS w k;obtain⟨f,K⟩:=gS w v;have:jj [x,y,z]=FM a b c d e f:=by
     funext i j;match i,j with
     | 0,0=>exact kD k
     | 0,1=>exact u
     | 0,2=>exact g
     | 1,0=>exact H
     | 1,1=>exact kD v
     | 1,2=>exact S
     | 2,0=>exact F
     | 2,1=>exact K
     | 2,2=>exact kD w
     | 0,j+3=>rfl
     | 1,j+3=>rfl
     | 2,j+3=>rfl
     | i+3,0=>rfl
     | i+3,1=>rfl
     | i+3,2=>rfl
     | i+3,j+3=>rfl
    rw [this];exact F5 a b c d e f
   | [],_,q,_=>simp at q
   | [_],_,q,_=>simp at q
   | _::_::_::_::_,h,_,_=>have:=h.1;simp at this
 obtain⟨t,w,e⟩:=o;exact⟨t,w,by unfold jx;rw [if_pos E,e];rfl⟩
theorem lB:i ∈ bX N a↔N[i]? = some a:=by
 unfold bX;rw [fU];constructor
 .exact fun h=>of_decide_eq_true h.2
 .exact fun h=>⟨jZ.mpr (aW h),iq h⟩
variable {B:BD}
theorem rQ (h:x ∈ B.PR):∃r ∈ B.roads,∃a b:Nat,x=pr r a b:=by unfold BD.PR a6 at h;obtain⟨r,e,h⟩:=jc.mp h;unfold tW at h;obtain⟨a,_,h⟩:=jc.mp h;obtain⟨b,_,rfl⟩:=bA.mp h;exact⟨r,e,a,b,rfl⟩
theorem HH (s:r ∈ B.roads) (x:B.N[a]? = some (rA r)) (e:B.N[b]? = some (rB r)) (h:a≠b):pr r a b ∈ B.PR:=by unfold BD.PR a6;refine jc.mpr ⟨r,s,?_⟩;unfold tW;refine jc.mpr ⟨a,lB.mpr x,bA.mpr ⟨b,?_,rfl⟩⟩;rw [fU];exact⟨lB.mpr e,by simpa using h⟩
structure Places (B:BD):Prop where
 get:∀(r:P) (a b:Nat),pr r a b ∈ B.PR->∃d,bW [.inl (a:Int),.inl (b:Int)] B.ks B.vs=some d
 ok:∀(x y:Int) (d:D),bW [.inl x,.inl y] B.ks B.vs=some d->∃(k:Nat) (r:P) (a b:Nat),r ∈ B.roads/\d=.p (.int (k:Int))/\B.PR[k]? = some (pr r a b)
noncomputable def bE (B:BD) (rds:List P):Prop:=rds.length=B.PR.length/\∀r ∈ rds,∃ls,iW ls/\r=.tup ls
theorem bE.at {B:BD}{u:List P} (h:bE B u) {k:Nat}{x:P} (n:B.PR[k]? = some x):k < u.length/\∃l,iW l/\u[k]? = some (.tup l):=by
 have a:k < u.length:=by rw [h.1];exact aW n
 obtain⟨l,e,s⟩:=h.2 u[k] (gD _);exact⟨a,l,e,by rw [cR a,s]⟩
variable {u:List P}
theorem bE.set (h:bE B u) (k:Nat) (a:iW l):bE B (u.set k (.tup l)):=by
 refine⟨by rw [eG];exact h.1,fun r x=>?_⟩;rcases List.mem_or_eq_of_mem_set x with x | rfl
 .exact h.2 r x
 .exact⟨l,a,rfl⟩
theorem lH (h:Pln B.fams B.roads B.wishes):B.PR.length≤2048:=by
 have N:B.N.length≤16:=aM (lr h) (by decide);have k:∀s:List P,(a6 B.N s).length≤256 * s.length:=by
  intro s;induction s with
  | nil=>simp [a6]
  | cons r s i=>have:=k_ B.N r N;rw [show a6 B.N (r::s)=tW B.N r++a6 B.N s by simp [a6],List.length_append,bc];lia
 have:=k B.roads;have:=h.rl
 unfold BD.PR;lia
theorem Ii (h:Str->GF):mT Tb h "Board" "family_of"=some (h "Board.family_of"):=by kernel_rfl
theorem Kv (h:Str->GF):mT Tb h "Board" "hands_beside"=some (h "Board.hands_beside"):=by kernel_rfl
theorem Im:fields.contains "family_of"=false:=by decide +kernel
theorem KJ:fields.contains "hands_beside"=false:=by decide +kernel
theorem pc {a:List P}{h:Nat}{f:P} (s:(av a)[h]? = some f):∃p:Nat,(homes a)[h]? = some (.int (p:Int))/\a[p]? = some f:=by
 unfold av at s;unfold homes;rw [List.getElem?_map] at s ⊢;cases e:(hw 0 a)[h]? with
 | none=>rw [e] at s;cases s
 | some x=>rw [e] at s;cases s;obtain⟨j,n,k⟩:=lp (bF e);exact⟨x.1,rfl,by rw [n,eF];exact k⟩
theorem uO {n:Nat} (r:2≤n) {B:BD}{b i:Nat}{S:aD} (h:Bd B b i S) {k:Nat}{f:P} (m:(av B.fams)[k]? = some f):Ph n "Board.family_of" [.ref i,.p (.int (k:Int))] S=some (.p f,S):=by obtain⟨n,rfl⟩:=fR (n:=n) (by first | assumption | lia);obtain⟨j,q,l,t,mk,v,h⟩:=h;obtain⟨p,e,a⟩:=pc m;have s:tX (dF (aT Att) (aa 0) "homes") (vv 1) [some (.ref i),qi (k:Int)] S=some (.p (.int (p:Int)),S):=h.ho.ix (h.homes rfl) rfl (bu e);have c:dF (aT Att) (aa 0) "families" [some (.ref i),qi (k:Int)] S=some (.p (.lst B.fams),S):=h.families rfl;rw [b9];show (match aK _ [some (.ref i),qi (k:Int)] S with | some (.rt d,_,x)=>some (d,x) | some (.nx,_,x)=>some (.p .non,x) | _=>none)=_;rw [qr,jw,c,aw,lJ,s];simp [bu a]
theorem Af (F:2≤n) (P:Pln B.fams B.roads B.wishes) (h:Bd B b i S) (k:Nat) (g:a ∈ B.N):∃e,Ph n "Board.hands_beside" [.ref i,.p (.int (k:Int)),.p (.str a)] S=some (.p (.lst (bG (oth B.N a k))),e)/\Fr b S e:=by
 obtain⟨n,rfl⟩:=fR (n:=n) (by first | assumption | lia);obtain⟨A,G,C,E,mk,I,h⟩:=h;obtain⟨j,u,m,s⟩:=h.mm a g;refine⟨_,?_,Fr.frz u s⟩;have r:tX (dF (aT Att) (aa 0) "members") (vv 2) [some (.ref i),qi (k:Int),qs a] S=some (.ref j,S):=by rw [jw,h.members rfl];simp [h.me,cd,m]
 have l:(bG (bX B.N a)).length≤1000000:=by have:=dL B.N a;have:B.N.length≤4:=lr P;simp [bG];lia
 have t:bb (ag 3) (bV (aA oz (aa 3) (aa 1))) (vv 3) (bG (bX B.N a)) [some (.ref i),qi (k:Int),qs a,none] (S.set j (.fz (.lst (bG (bX B.N a)))))=some (bG (oth B.N a k),S.set j (.fz (.lst (bG (bX B.N a))))):=by
  rw [bI (p:=fun v=>match v with | .int x=>!decide (k=x.toNat) | _=>false) (f:=id) (Inv:=fun L=>∃d,L=[some (.ref i),qi (k:Int),qs a,d]) (fun v c L w=>?_) ⟨none,rfl⟩]
  .congr 2;unfold bG oth;rw [mE,mw];rfl
  .obtain⟨d,rfl⟩:=w;unfold bG at c;obtain⟨o,K,rfl⟩:=bA.mp c;refine⟨[some (.ref i),qi (k:Int),qs a,qi (o:Int)],rfl,⟨_,rfl⟩,?_,fun _=>by simp⟩;by_cases q:k=o
   .simp [q]
   .have y:¬(o:Int)=(k:Int):=by lia
    have H:¬o=k:=fun z=>q z.symm;simp [q,y,H]
 rw [cb];show (match aK _ [some (.ref i),qi (k:Int),qs a] S with | some (.rt d,_,e)=>some (d,e) | some (.nx,_,e)=>some (.p .non,e) | _=>none)=_;simp only [bt,qr,pe,aX,fW,lJ,r,aw,s.frz];rw [if_pos (by rw [nP];exact l)];rw [show kj [] 1 [some (D.ref i),qi (k:Int),qs a]=[some (.ref i),qi (k:Int),qs a,none] from rfl,t];rfl
structure GC (B:BD) where
 b:Nat
 i:Nat
 S0:aD
 r:Nat
 bd:Bd B b i S0
 hr:S0.length≤r
theorem GC.le (G:GC B):G.b≤G.S0.length:=G.bd.le
theorem eJ {i:Type}{g:i4}{b:ES}{p:i->Lc->Prop}{Sp:i->aD->Prop}{r:i->Nat}{c M:Nat}{f:P->List P}:∀{s:List P},
  (∀x ∈ s,(f x).length≤c/\∀G L S w,p G L->Sp G S->S[r G]? = some (.lst (w.map .p))->w.length+c≤M->∃k L2 e,g x L=some k/\b k S=some (.nx,L2,e)/\p G L2/\Sp G e/\e[r G]? = some (.lst ((w++f x).map .p))) ->
  (s.flatMap f).length≤c * s.length/\∀G L S w,p G L->Sp G S->S[r G]? = some (.lst (w.map .p))->w.length+c * s.length≤M->∃n a,aO g b s L S=some (.nx,n,a)/\p G n/\Sp G a/\a[r G]? = some (.lst ((w++s.flatMap f).map .p))
 | [],_=>⟨by simp,fun G L S w m v h _=>⟨L,S,rfl,m,v,by rw [List.flatMap_nil,List.append_nil];exact h⟩⟩
 | x::s,j=>by
  obtain⟨D,H⟩:=j x List.mem_cons_self;obtain⟨I,C⟩:=eJ (s:=s) fun y B=>j y (aY _ B);have A:c * (x::s).length=c+c * s.length:=by rw [bc,Nat.mul_succ,Nat.add_comm]
  refine⟨by rw [A,g7,List.length_append];lia,fun G L S w m v h E=>?_⟩;obtain⟨k,L2,e,l,z,q,u,F⟩:=H G L S w m v h (by lia);obtain⟨n,a,o,t,d,K⟩:=C G L2 e (w++f x) q u F (by rw [List.length_append];lia);exact⟨n,a,by rw [bf l z];exact o,t,d,by rw [g7,<- List.append_assoc];exact K⟩
theorem gy {q:Type}{g:i4}{b:ES}{p:q->Lc->Prop}{Sp:q->aD->Prop}{r:q->Nat}{Q:P->Prop}{c M:Nat}{e:List P}
  (h:∀x ∈ e,∃s:List P,s.length≤c/\(∀y ∈ s,Q y)/\∀G L S w,p G L->Sp G S->S[r G]? = some (.lst (w.map .p))->w.length+c≤M->∃d L2 m,g x L=some d/\b d S=some (.nx,L2,m)/\p G L2/\Sp G m/\m[r G]? = some (.lst ((w++s).map .p))) :
  ∃s:List P,s.length≤c * e.length/\(∀y ∈ s,Q y)/\∀G L S w,p G L->Sp G S->S[r G]? = some (.lst (w.map .p))->w.length+c * e.length≤M->∃v k,aO g b e L S=some (.nx,v,k)/\p G v/\Sp G k/\k[r G]? = some (.lst ((w++s).map .p)):=by
 let f:P->List P:=fun x=>@dite _ (x ∈ e) (Classical.propDecidable _) (fun a=>Classical.choose (h x a)) fun _=>[]
 have u:∀x a,f x=Classical.choose (h x a):=fun x a=>dif_pos a;have t:=fun x a=>Classical.choose_spec (h x a);obtain⟨i,j⟩:=eJ (f:=f) fun x a=>by rw [u x a];exact⟨(t x a).1,(t x a).2.2⟩
 exact⟨_,i,fun y n=>by obtain⟨x,a,n⟩:=jc.mp n;rw [u x a] at n;exact (t x a).2.1 y n,j⟩
theorem gF (h:S[r]? = some o):(S.set r a)[r]? = some a:=by rw [dP (aW h)]
variable {k:Nat}{w:List P}
theorem kH (n:r L S=some (.ref k,S)) (h:S[k]? = some (.lst (w.map .p))) (s:a L S=some (.lst y,e)) (x:e[k]? = some (.lst (w.map .p))) (l:w.length+y.length≤1000000):bL (dI r a) L S=some (.nx,L,e.set k (.lst ((w++y).map .p))):=by rw [ky,uQ,n,aw];simp only [c_,h,s,aw,x,b8];rw [if_pos (by rw [kK];exact l),List.map_append];rfl
theorem iU (n:r L S=some (.ref k,S)) (h:S[k]? = some (.lst (w.map .p))) (s:a L S=some (.p y,e)) (x:e[k]? = some (.lst (w.map .p))) (l:w.length≤1000000):bL (a_ r a) L S=some (.nx,L,e.set k (.lst ((w++[y]).map .p))):=by rw [ky,j_,n,aw];simp only [c_,h,s,aw,x];rw [if_pos (by rw [nP,b8];exact l),List.map_append];rfl
theorem CD (m:Pln B.fams B.roads B.wishes) (n:a ∈ B.fams):a8 a ∈ B.N:=by
 have p:1≤fY a:=by
  obtain⟨q,c,o,e,w,t,h,rfl⟩:=m.hf a n;have:=h.hcr.1
  simp [fY];lia
 have y:∀(f:List P) (k:Nat),a ∈ f->∃x ∈ hw k f,x.2=a:=by
  intro f;induction f with
  | nil=>intro k h;cases h
  | cons g r i=>
   intro k h;rcases bj.mp h with rfl | h
   .exact⟨(k,a),by unfold hw;exact j5 _ (pP.mpr ⟨by lia,rfl⟩),rfl⟩
   .obtain⟨x,s,b⟩:=i (k+1) h;exact⟨x,by unfold hw;exact dX _ s,b⟩
 obtain⟨x,s,rfl⟩:=y B.fams 0 n;unfold BD.N ar av;exact bA.mpr ⟨x.2,bA.mpr ⟨x,s,rfl⟩,rfl⟩
theorem Ki (f:(av B.fams)[k]? = some h):B.N[k]? = some (a8 h):=by unfold BD.N ar;rw [List.getElem?_map,f];rfl
noncomputable def tS (B:BD) (u:List P) (hd:Nat) (y:P):Prop:=∃(s p k:Nat) (l:List P),y=.tup [.int (s:Int),.int (p:Int)]/\bW [.inl (s:Int),.inl (hd:Int)] B.ks B.vs=qi (k:Int)/\k < u.length/\u[k]? = some (.tup l)/\iW l/\p < l.length
theorem C2 {B:BD} (hP:Pln B.fams B.roads B.wishes) (G:Places B) {n:Nat} (hn:2≤n) {u:List P} (hr:bE B u) {hd s:Nat}{d:D} (j:bW [.inl (s:Int),.inl (hd:Int)] B.ks B.vs=some d) {t:Str}{g:List P} :
  ∃ys:List P,ys.length≤3/\(∀y ∈ ys,tS B u hd y)/\∀(b i:Nat) (S:aD) (r:Nat) (w:List P) (q6 W A K:Option D),Bd B b i S->S[r]? = some (.lst (w.map .p))->w.length+3≤1000000 ->
   ∃V X Y Z,di (Ph n) (Ph (n-1)) [some (.ref i),qp (.tup u),qi (hd:Int),qp (.tup (.str t::g)),some (.ref r),qi (s:Int),q6,W,A,K] S=some (.nx,[some (.ref i),qp (.tup u),qi (hd:Int),qp (.tup (.str t::g)),some (.ref r),qi (s:Int),V,X,Y,Z],S.set r (.lst ((w++ys).map .p))):=by
 obtain⟨k,road,a,b',J,rfl,hk⟩:=G.ok _ _ _ j;obtain⟨I,l,q,H⟩:=hr.at hk;obtain⟨ra,rb,f,c,d1,d2,ha,hb,hkd,hc1,hc2,rfl⟩:=hP.hr road J;have h3:=q.1;have e:∃e:List P,e.length≤l.length/\(∀y ∈ e,G6 l.length y)/\∀(L:Lc) (S:aD),L[7]? = some (qs f)->L[8]? = some (qp (.tup l))->B6 (bV (aA dC (aa 7) (eV (vt "row")))) (gb (EQ (dB (aa 8))) dw (de (vi 1))) (af (pureOf (Ph n "unlike_spots")) (v2 (vv 7) (vv 8))) L S=some (.lst e,S):=by
  obtain⟨us,O,Q,eu⟩:=FF hn f q;have hq:l.length < 1000000:=by lia
  by_cases o:f="row"
  .refine⟨cut (intsFrom 0 l.length) none (some 1),by have:=(mP (h:=intsFrom 0 l.length) (lo:=none) (i:=some 1)).2;rwa [bH] at this,fun y U=>?_,fun L S C E=>?_⟩
   .obtain⟨i,rfl,hi⟩:=fM (mP.1 y U);exact⟨i,hi,by simp⟩
   .simp [C,E,o,b_,cE,hq]
  .exact⟨us,O,Q,fun L S C E=>by simp [C,E,o,eu]⟩
 obtain⟨e,M,F,es⟩:=e;let p:P->Bool:=fun v=>match v with | .int x=>decide (a8 (l.getD x.toNat .non)=t) | _=>false
 refine⟨(e.filter p).map fun v=>.tup [.int (s:Int),v],by rw [b8];exact aM (iw ..) (aM M h3),fun y U=>?_,fun b i S r w q6 W A K hB hS hM=>?_⟩
 .obtain⟨v,R,rfl⟩:=bA.mp U;obtain⟨x,T,rfl⟩:=F v (fU.mp R).1;exact⟨s,x,k,l,rfl,j,I,H,q,T⟩
 .obtain⟨jh,jp,jl,jm,mk,mv,h⟩:=hB;have e2:bb (ag 10) (bV (aA dC (eV (ab al (ab al (vv 8) (vv 10)) (vi 0))) (eV (ab al (vv 3) (vi 0))))) (az (v2 (vv 5) (vv 10))) e [some (.ref i),qp (.tup u),qi (hd:Int),qp (.tup (.str t::g)),some (.ref r),qi (s:Int),qi (k:Int),qs f,qp (.tup l),ql e,none] S=some ((e.filter p).map fun v=>.tup [.int (s:Int),v],S):=
   bI (Inv:=fun L=>∃d,L=[some (.ref i),qp (.tup u),qi (hd:Int),qp (.tup (.str t::g)),some (.ref r),qi (s:Int),qi (k:Int),qs f,qp (.tup l),ql e,d]) (fun v R L G=>by obtain⟨d,rfl⟩:=G;obtain⟨x,T,rfl⟩:=F v R;have j:l[x]? = some l[x]:=cR T;obtain⟨m,z,_,_,hz⟩:=q.2 l[x] (gD _);rw [hz] at j;refine⟨[some (.ref i),qp (.tup u),qi (hd:Int),qp (.tup (.str t::g)),some (.ref r),qi (s:Int),qi (k:Int),qs f,qp (.tup l),ql e,qi (x:Int)],rfl,⟨_,rfl⟩,?_,fun _=>by simp⟩;simp [bu j,p,j,a8]) ⟨none,rfl⟩
  refine⟨qi (k:Int),qs f,qp (.tup l),ql e,?_⟩;have N:e.length≤1000000:=by lia
  unfold di;refine (aj (e:=[some (.ref i),qp (.tup u),qi (hd:Int),qp (.tup (.str t::g)),some (.ref r),qi (s:Int),qi (k:Int),W,A,K]) (b:=S) ?_).trans ?_
  .rw [du,wb,h.places rfl];simp [iI,h.pl,cn,cd,j]
  refine (aj (e:=[some (.ref i),qp (.tup u),qi (hd:Int),qp (.tup (.str t::g)),some (.ref r),qi (s:Int),qi (k:Int),qs f,A,K]) (b:=S) ?_).trans ?_
  .rw [du,jw,jw,h.pr.ix (h.pairs rfl) (i:=(k:Int)) rfl (bu hk)];simp [pr]
  refine (aj (e:=[some (.ref i),qp (.tup u),qi (hd:Int),qp (.tup (.str t::g)),some (.ref r),qi (s:Int),qi (k:Int),qs f,qp (.tup l),K]) (b:=S) ?_).trans ?_
  .simp [bu H]
  refine (aj (e:=[some (.ref i),qp (.tup u),qi (hd:Int),qp (.tup (.str t::g)),some (.ref r),qi (s:Int),qi (k:Int),qs f,qp (.tup l),ql e]) (b:=S) ?_).trans ?_
  .rw [du,pe,es _ S rfl rfl];rfl
  refine kH rfl hS ?_ hS (by rw [b8];have:=iw p e;lia);simp only [aX,fW,lJ];simp [N,kj,e2]
theorem AL {B:BD} (H:Pln B.fams B.roads B.wishes) (hL:Places B) {n:Nat} (hn:4≤n) {hd:Nat}{f:P} (hf:(av B.fams)[hd]? = some f) {u K:List P} (hr:bE B u) {I:P} (ht:jr (a8 f) B.roads K I) :
  ∃p:List P,p.length≤12/\(∀y ∈ p,(I=.non/\y=.non)\/(I≠.non/\tS B u hd y))/\∀(b i:Nat) (S:aD),Bd B b i S->∃d j,Ph n "takeable" [.ref i,.p (.tup u),.p (.int (hd:Int)),.p I] S=some (d,j)/\Fr b S j/\lI S j d p:=by
 obtain⟨n,rfl⟩:=fR (n:=n) (by first | assumption | lia);rcases ht with rfl | ⟨m,a,t,k,_,_,_,_,⟨r,F,V,rfl⟩,_,rfl⟩
 .refine⟨[.non],by simp,fun y X=>.inl ⟨rfl,by simpa using X⟩,fun b i S z=>⟨.p (.lst [.non]),S,?_,Fr.refl _ _,.inl rfl⟩⟩;rw [ff];simp [cJ,dc,rV,dR]
 .have v:rA r ∈ B.N:=by
   obtain⟨⟨f',h1,O⟩,_⟩:=H.ra r F;rw [<- O];exact CD H h1
  obtain⟨p,h1,O,h3⟩:=gy (q:=GC B) (g:=ag 5) (b:=di (Ph (n+1)) (Ph n)) (Sp:=fun G S=>Fr G.b G.S0 S) (r:=fun G=>G.r) (Q:=tS B u hd) (c:=3) (M:=1000) (e:=bG (oth B.N (rA r) hd))
   (p:=fun G L=>∃Y A C D E,L=[some (.ref G.i),qp (.tup u),qi (hd:Int),qp (.tup [.str m,.str (rA r),.str t,.str k]),some (.ref G.r),Y,A,C,D,E]) (fun x hx=>by
    unfold bG at hx;obtain⟨s,v,rfl⟩:=bA.mp hx;unfold oth at v;rw [fU] at v;have W:s≠hd:=fun q=>by have:=v.2;simp [q] at this
    obtain⟨d,hg⟩:=hL.get r s hd (HH F (lB.mp v.1) (by rw [Ki hf,V]) W);obtain⟨p,k1,k2,k3⟩:=C2 H hL (n:=n+1) (by lia) hr hg (t:=m) (g:=[.str (rA r),.str t,.str k]);refine⟨p,k1,k2,fun G L S w T hS h hM=>?_⟩;obtain⟨Y,A,C,D,E,rfl⟩:=T;obtain⟨q6',q7',q8',q9',e⟩:=k3 G.b G.i S G.r w A C D E (G.bd.fr hS) h (by lia);exact⟨_,_,_,rfl,e,⟨_,_,_,_,_,rfl⟩,hS.set G.le G.hr _,gF h⟩)
  have hol:(bG (oth B.N (rA r) hd)).length≤4:=by
   have h4:B.N.length≤4:=lr H;have:=dL B.N (rA r)
   have:=iw (fun o=>!decide (hd=o)) (bX B.N (rA r));simp [bG,oth];lia
  refine⟨p,by lia,fun y X=>.inr ⟨fun q=>(by cases q),O y X⟩,fun b i S z=>?_⟩;have uK:=Fr.app b S [.lst []];obtain⟨Z,e1,l⟩:=Af (n:=n+1) (by lia) H (z.fr uK) hd v;have J:=uK.trans l;have hb:=z.le;obtain⟨L',j,e2,⟨Y,A,C,D,E,rfl⟩,N,hl⟩:=h3 ⟨b,i,S,S.length,z,Nat.le_refl _⟩ [some (.ref i),qp (.tup u),qi (hd:Int),qp (.tup [.str m,.str (rA r),.str t,.str k]),some (.ref S.length),none,none,none,none,none] Z [] ⟨_,_,_,_,_,rfl⟩ J (l.hi _ _ hb (gu _ _)) (by simp;lia);refine⟨.ref S.length,j,?_,N,.inr ⟨S.length,Nat.le_refl _,rfl,.inl hl⟩⟩;rw [ff];have R:=z.fr uK;obtain⟨jh,jp,jl,jm,mk,mv,U⟩:=R;have em:dA (mT Tb (Ph (n+1))) (aa 0) "hands_beside" (ae (aa 2) (ae (eV (ab al (vv 3) (vi 1))) ba)) [some (.ref i),qp (.tup u),qi (hd:Int),qp (.tup [.str m,.str (rA r),.str t,.str k]),some (.ref S.length),none,none,none,none,none] (S++[.lst []])=some (.p (.lst (bG (oth B.N (rA r) hd))),Z):=
   (U.meth rfl (Kv _) KJ (l:=[.p (.int (hd:Int)),.p (.str (rA r))]) (by simp)).trans e1
  simp [cJ,dc,rV,dR,-ie,em,e2]
noncomputable def ow (v:P):Prop:=∃j:Int,v=.int j
theorem ow.ok (h:ow v) (n:Nat):bR n v=true:=by obtain⟨j,rfl⟩:=h;simp
variable {m:Str}
theorem Ds (hP:Pln B.fams B.roads B.wishes) (hL:Places B) (hn:2≤n) (T:bE B u) (hd t v:Int) (hm:PyData.strOk m=true) :
  ∃I:Option (List P),(∀j,I=some j->bE B j)/\∀(b i:Nat) (S:aD) (s:P) (p e x:Option D),Bd B b i S->∃C E G,
   d9 (Ph n) (Ph (n-1)) [some (.ref i),qp (.tup u),qi hd,qp s,qp (.tup [.str m,.int v]),qi t,p,e,x] S=match I with
    | none=>some (.rt (.p .non),[some (.ref i),qp (.tup u),qi hd,qp s,qp (.tup [.str m,.int v]),qi t,C,E,G],S)
    | some j=>some (.nx,[some (.ref i),qp (.tup j),qi hd,qp s,qp (.tup [.str m,.int v]),qi t,C,E,G],S):=by
 cases N:bW [.inl hd,.inl t] B.ks B.vs with
 | none=>
  refine⟨none,fun _ q=>(by cases q),fun b i S s p e x r=>⟨qp .non,e,x,?_⟩⟩;obtain⟨V,Y,W,X,mk,Z,h⟩:=r;unfold d9;refine (aj (e:=[some (.ref i),qp (.tup u),qi hd,qp s,qp (.tup [.str m,.int v]),qi t,qp .non,e,x]) (b:=S) ?_).trans (ut ?_)
  .rw [du,sX,h.places rfl];simp [iI,h.pl,cn,cd,N]
  .simp [rV,dR]
 | some d=>
  obtain⟨k,road,a,b',U,rfl,O⟩:=hL.ok _ _ _ N;obtain⟨Q,A,R,l⟩:=T.at O;obtain⟨ra,rb,J,c,d1,d2,ha,hb,hkd,hc1,hc2,y⟩:=hP.hr road U;have L:L2.atI [P.str ra,.str rb,.str J,.int c,.bl d1,.bl d2] 3=some (.int c):=aU (by decide) rfl;have s1:∀(b i:Nat) (S:aD) (s:P) (p e x:Option D),Bd B b i S->ak 6 (sY (dF (aT Att) (aa 0) "places") (v2 (vv 2) (vv 5))) [some (.ref i),qp (.tup u),qi hd,qp s,qp (.tup [.str m,.int v]),qi t,p,e,x] S=some (.nx,[some (.ref i),qp (.tup u),qi hd,qp s,qp (.tup [.str m,.int v]),qi t,qi (k:Int),e,x],S):=fun b i S s p e x r=>by obtain⟨V,Y,W,X,mk,Z,h⟩:=r;rw [du,sX,h.places rfl];simp [iI,h.pl,cn,cd,N]
  by_cases hv:v.natAbs≤999
  .have g:¬(999:Int) < (if v < 0 then -v else v):=by split <;> lia
   by_cases M:c≤(A.length:Int)
   .refine⟨none,fun _ q=>(by cases q),fun b i S s p e x r=>⟨qi (k:Int),qp road,x,?_⟩⟩;refine (aj (s1 b i S s p e x r)).trans ((aj (e:=[some (.ref i),qp (.tup u),qi hd,qp s,qp (.tup [.str m,.int v]),qi t,qi (k:Int),e,x]) (b:=S) ?_).trans ((aj (e:=[some (.ref i),qp (.tup u),qi hd,qp s,qp (.tup [.str m,.int v]),qi t,qi (k:Int),qp road,x]) (b:=S) ?_).trans (ut ?_)))
    .simp [rV,dR,lZ,g]
    .obtain⟨V,Y,W,X,mk,Z,h⟩:=r;rw [du,jw,h.pr.ix (h.pairs rfl) (i:=(k:Int)) rfl (bu O)];simp [pr]
    .simp [y,bu l,b_,cE,L,M]
   .have H:(A++[P.tup [.str m,.int v]]).length≤3:=by simp;lia
    have F:iW (A++[P.tup [.str m,.int v]]):=⟨H,cB R.2 ⟨m,v,hm,hv,rfl⟩⟩;have ea:=cW (xs:=A) (c:=[P.tup [.str m,.int v]]) (by simp at H ⊢;lia);obtain⟨zs,hz,ez⟩:=o0 F;have hpl:=lH hP;have hrl:=T.1;have er:=fun (w:P)=>np hn (xs:=u) (k:=k) Q (by lia) w;obtain⟨f,o,K⟩:∃f,iW f/\((J="heap"/\f=zs)\/(¬J="heap"/\f=A++[P.tup [.str m,.int v]])):=by
     by_cases z:J="heap"
     .exact⟨zs,hz,.inl ⟨z,rfl⟩⟩
     .exact⟨_,F,.inr ⟨z,rfl⟩⟩
    refine⟨some (u.set k (.tup f)),fun _ q=>by cases q;exact T.set k o,fun b i S s p e x r=>⟨qi (k:Int),qp road,qp (.tup f),?_⟩⟩;refine (aj (s1 b i S s p e x r)).trans ((aj (e:=[some (.ref i),qp (.tup u),qi hd,qp s,qp (.tup [.str m,.int v]),qi t,qi (k:Int),e,x]) (b:=S) ?_).trans ((aj (e:=[some (.ref i),qp (.tup u),qi hd,qp s,qp (.tup [.str m,.int v]),qi t,qi (k:Int),qp road,x]) (b:=S) ?_).trans ?_))
    .simp [rV,dR,lZ,g]
    .obtain⟨V,Y,W,X,mk,Z,h⟩:=r;rw [du,jw,h.pr.ix (h.pairs rfl) (i:=(k:Int)) rfl (bu O)];simp [pr]
    rcases K with ⟨z,rfl⟩ | ⟨z,rfl⟩
    .simp [y,bu l,b_,cE,L,M,ea,z,wP,AS,ez,bD,er]
    .simp [y,bu l,b_,cE,L,M,ea,z,er]
  .have g:(999:Int) < (if v < 0 then -v else v):=by split <;> lia
   refine⟨none,fun _ q=>(by cases q),fun b i S s p e x r=>⟨qi (k:Int),e,x,?_⟩⟩;refine (aj (s1 b i S s p e x r)).trans (ut ?_);simp [rV,dR,lZ,g]
theorem vF (F:Pln B.fams B.roads B.wishes) (H:Places B) (A:2≤n) (hd v:Int) (K:PyData.strOk m=true):∀{l:List P},(∀t ∈ l,ow t)->∀{u:List P},bE B u ->
  ∃r:Option (List P),(∀s,r=some s->bE B s)/\∀(b i:Nat) (S:aD) (d:P) (w f c p:Option D),Bd B b i S->∃L z h a k,
   aO (ag 5) (d9 (Ph n) (Ph (n-1))) l [some (.ref i),qp (.tup u),qi hd,qp d,qp (.tup [.str m,.int v]),w,f,c,p] S=match r with
    | none=>some (.rt (.p .non),L,S)
    | some s=>some (.nx,[some (.ref i),qp (.tup s),qi hd,qp d,qp (.tup [.str m,.int v]),z,h,a,k],S)
 | [],_,u,y=>⟨some u,fun _ q=>by cases q;exact y,fun b i S d w f c p _=>⟨[],w,f,c,p,rfl⟩⟩
 | t::l,C,u,y=>by
  obtain⟨j,rfl⟩:=C t List.mem_cons_self;obtain⟨r,N,o⟩:=Ds F H A y hd j v K;cases r with
  | none=>refine⟨none,fun _ q=>(by cases q),fun b i S d w f c p g=>?_⟩;obtain⟨h,a,k,e⟩:=o b i S d f c p g;exact⟨_,w,f,c,p,sS rfl e⟩
  | some s=>obtain⟨r,Q,R⟩:=vF F H A hd v K (l:=l) (fun x O=>C x (aY _ O)) (N s rfl);refine⟨r,Q,fun b i S d w f c p g=>?_⟩;obtain⟨h,a,k,e⟩:=o b i S d f c p g;obtain⟨L,E,G,I,J,M⟩:=R b i S d (qi j) h a k g;exact⟨L,E,G,I,J,by rw [<- M];exact bf rfl e⟩
theorem A5 (p:Pln B.fams B.roads B.wishes) (f:Places B) (g:3≤n) (hd v:Int) (q:PyData.strOk m=true) (w:∀t ∈ c,ow t) (d:bE B u) :
  ∃a:P,(a=.non\/∃r,bE B r/\a=.tup r)/\∀(b i:Nat) (S:aD),Bd B b i S->Ph n "posted" [.ref i,.p (.tup u),.p (.int hd),.p (.lst c),.p (.tup [.str m,.int v])] S=some (.p a,S):=by
 obtain⟨n,rfl⟩:=fR (n:=n) (by first | assumption | lia);obtain⟨s,k,x⟩:=vF p f (n:=n+1) (by lia) hd v q w d;cases s with
 | none=>refine⟨.non,.inl rfl,fun b i S h=>?_⟩;obtain⟨L,_,_,_,_,e⟩:=x b i S (.lst c) none none none none h;rw [gL];simp only [j3] at e;simp [cJ,eL,e]
 | some r=>refine⟨.tup r,.inr ⟨r,k r rfl,rfl⟩,fun b i S h=>?_⟩;obtain⟨L,_,_,_,_,e⟩:=x b i S (.lst c) none none none none h;rw [gL];simp only [j3] at e;simp [cJ,eL,e]
noncomputable def Ck (y:P):Prop:=∃s h,y=.tup [.tup s,.lst h]/\s.length≤1/\(∀a ∈ s,ow a)/\∀t ∈ h,ow t
noncomputable abbrev eK (n:Str) (e:Nat) (r c w s:List P):P:=.tup [.str n,.int (e:Int),.lst r,.lst c,.lst w,.lst s]
theorem vp {s:List P} (h:∀x ∈ s,i8 x) {x:Str} (a:P.str x ∈ s):∃i:Nat,i < s.length/\gP s (.str x)=some i:=kF (fun y e=>(h y e).ok 19) a
theorem tg_ok {B:BD} (G:Pln B.fams B.roads B.wishes) {n:Nat} (hn:4≤n) {hd:Nat}{J:Str}{x:Nat}{m c s e:List P} (hF:Fam B.roads J x m c s e) (hf:(av B.fams)[hd]? = some (eK J x m c s e)) {g:List P} (hw:g.length=s.length) (R:∀w ∈ g,ow w) {u z:Str}
  (hc:(u="who"/\P.str z ∈ s)\/((u="all"\/u="any")/\∃r ∈ B.roads,rA r=J/\z=rB r)) :
  ∃T:List P,T.length≤4/\(∀y ∈ T,Ck y)/\∀(b i:Nat) (S:aD),Bd B b i S->∃F,Ph n "targets_of" [.ref i,.p (.int (hd:Int)),.p (.str u),.p (.str z),.p (.tup g)] S=some (.p (.lst T),F)/\Fr b S F:=by
 obtain⟨n,rfl⟩:=fR (n:=n) (by first | assumption | lia);rcases hc with ⟨rfl,N⟩ | ⟨D,r,O,hra,rfl⟩
 .obtain⟨k,hk,Z⟩:=vp hF.hwh N;have U:g[k]? = some (g[k]'(by lia)):=cR (by lia);generalize W:g[k]'(by lia)=v at U;have Q:ow v:=by rw [<- W];exact R _ (gD _)
  refine⟨[.tup [.tup [],.lst [v]]],by simp,fun y E=>⟨[],[v],by simpa using E,by simp,fun _ h=>(by cases h),fun t I=>by rw [je.mp I];exact Q⟩,fun b i S j=>⟨S,?_,Fr.refl _ _⟩⟩;have Y:=uO (n:=n+1) (by lia) j hf;obtain⟨jh,jp,jl,jm,mk,mv,h⟩:=j;have A:dA (mT Tb (Ph (n+1))) (aa 0) "family_of" (ae (aa 1) ba) [some (.ref i),qi (hd:Int),qs "who",qs z,qp (.tup g),none] S=some (.p (eK J x m c s e),S):=
   (h.meth rfl (Ii _) Im (l:=[.p (.int (hd:Int))]) (by simp)).trans Y
  rw [cU];simp [cJ,bY,-ie,A,IE,Z,bu U]
 .have hs:rB r ∈ B.N:=by
   obtain⟨_,⟨f',h1,h2⟩⟩:=G.ra r O;rw [<- h2];exact CD G h1
  have C:(bG (oth B.N (rB r) hd)).length≤4:=by
   have h4:B.N.length≤4:=lr G;have:=dL B.N (rB r)
   have:=iw (fun o=>!decide (hd=o)) (bX B.N (rB r));simp [bG,oth];lia
  have l:∀t ∈ bG (oth B.N (rB r) hd),ow t:=fun t I=>by unfold bG at I;obtain⟨o,_,rfl⟩:=bA.mp I;exact⟨_,rfl⟩
  have A:∀(b i:Nat) (S:aD),Bd B b i S->∃F,dA (mT Tb (Ph (n+1))) (aa 0) "hands_beside" (ae (aa 1) (ae (aa 3) ba)) [some (.ref i),qi (hd:Int),qs u,qs (rB r),qp (.tup g),none] S=some (.p (.lst (bG (oth B.N (rB r) hd))),F)/\Fr b S F:=fun b i S j=>by obtain⟨H,K,q⟩:=Af (n:=n+1) (by lia) G j hd hs;obtain⟨jh,jp,jl,jm,mk,mv,h⟩:=j;exact⟨H,(h.meth rfl (Kv _) KJ (l:=[.p (.int (hd:Int)),.p (.str (rB r))]) (by simp)).trans K,q⟩
  generalize bG (oth B.N (rB r) hd)=os at C l A;rcases D with rfl | rfl
  .refine⟨[.tup [.tup [],.lst os]],by simp,fun y E=>⟨[],os,by simpa using E,by simp,fun _ h=>(by cases h),l⟩,fun b i S j=>?_⟩;obtain⟨H,K,q⟩:=A b i S j;refine⟨H,?_,q⟩;rw [cU];simp [cJ,bY,-ie,K]
  .refine⟨os.map fun o=>.tup [.tup [o],.lst [o]],by simpa using C,fun y E=>?_,fun b i S j=>?_⟩
   .obtain⟨o,V,rfl⟩:=bA.mp E;exact⟨[o],[o],rfl,by simp,fun a M=>by rw [je.mp M];exact l o V,fun a M=>by rw [je.mp M];exact l o V⟩
   .obtain⟨H,K,q⟩:=A b i S j;refine⟨H,?_,q⟩;have X:bb (ag 6) fm (az (v2 (az (v1 (vv 6))) (aS (v1 (vv 6))))) os [some (.ref i),qi (hd:Int),qs "any",qs (rB r),qp (.tup g),ql os,none] H=some (os.map fun o=>.tup [.tup [o],.lst [o]],H):=by
     rw [bI (p:=fun _=>true) (f:=fun o=>.tup [.tup [o],.lst [o]]) (Inv:=fun L=>∃d,L=[some (.ref i),qi (hd:Int),qs "any",qs (rB r),qp (.tup g),ql os,d]) (fun v W L hL=>?_) ⟨none,rfl⟩,eP];obtain⟨d,rfl⟩:=hL;exact⟨[some (.ref i),qi (hd:Int),qs "any",qs (rB r),qp (.tup g),ql os,qp v],rfl,⟨_,rfl⟩,rfl,fun _=>by simp⟩
    have hq:os.length≤1000000:=by lia
    rw [cU];simp [cJ,bY,-ie,K,aX,hq,kj,X]
noncomputable def zu (y:P):Prop:=∃s p:Nat,y=.tup [.int (s:Int),.int (p:Int)]
theorem Fz {n:Nat} (B:3≤n) {j:List P}{d:Str}{e:Nat}{r c o t:List P} (F:Fam j d e r c o t) {x:List P} (hw:x.length=o.length) (i:∀w ∈ x,ow w) {p y:P} (H:jr d j o p) (K:(p=.non/\y=.non)\/(p≠.non/\zu y)) :
  ∃f,f.length=o.length/\(∀w ∈ f,ow w)/\pureOf (Ph n "whos_behind") [eK d e r c o t,.tup x,p,y]=some (.tup f):=by
 obtain⟨n,rfl⟩:=fR (n:=n) (by first | assumption | lia);rcases H with rfl | ⟨m,a,g,u,_,_,_,_,_,b,rfl⟩
 .refine⟨x,hw,i,?_⟩;rw [cx,ai];simp [bx,rV,dR]
 .obtain⟨s,C,rfl⟩:zu y:=by
   rcases K with ⟨q,_⟩ | ⟨_,q⟩
   .cases q
   .exact q
  by_cases v:u=""
  .refine⟨x,hw,i,?_⟩;rw [cx,ai];simp [bx,rV,dR,v]
  .obtain⟨k,A,l⟩:=vp F.hwh (b.resolve_left v);have S:=F.wl;have z:=np (n:=n+1) (by lia) (xs:=x) (k:=k) (by lia) (by lia) (.int (s:Int));refine⟨x.set k (.int (s:Int)),by rw [eG];exact hw,fun w h=>?_,?_⟩
   .rcases List.mem_or_eq_of_mem_set h with h | rfl
    .exact i w h
    .exact⟨_,rfl⟩
   .rw [cx,ai];simp [bx,rV,dR,v,IE,l,z]
theorem qU (x:bz) (y:P):∀(n:List bz) (c:List P),n.Nodup->n.length=c.length->∃s a,nZ x (.p y) n (c.map .p)=(s,a.map .p)/\s.Nodup/\s.length=a.length/\s.length≤n.length+1/\(∀k ∈ s,k=x\/k ∈ n)/\∀k,bM k s a=if x=k then some y else bM k n c
 | [],[],_,_=>⟨[x],[y],rfl,by simp,rfl,by simp,fun k h=>.inl (by simpa using h),fun k=>by by_cases q:x=k <;> simp [bM,q]⟩
 | [],_::_,_,h=>by simp at h
 | _::_,[],_,h=>by simp at h
 | f::n,v::c,m,l=>by
  obtain⟨t,m⟩:=List.nodup_cons.mp m;by_cases q:f=x
  .refine⟨f::n,y::c,by simp [nZ,q],List.nodup_cons.mpr ⟨t,m⟩,by simpa using l,by simp,fun k h=>.inr h,fun k=>?_⟩;subst q;by_cases b:f=k
   .simp [bM,b]
   .simp [bM,b]
  .obtain⟨s,a,e,d,w,g,r,u⟩:=qU x y n c m (by simpa using l);refine⟨f::s,v::a,by simp [nZ,q,e],List.nodup_cons.mpr ⟨fun z=>?_,d⟩,by simp [w],by simp;lia,fun k h=>?_,fun k=>?_⟩
   .rcases r f z with z | z
    .exact q z
    .exact t z
   .rcases bj.mp h with rfl | h
    .exact .inr List.mem_cons_self
    .rcases r k h with h | h
     .exact .inl h
     .exact .inr (aY _ h)
   .show (if f=k then some v else bM k s a)=_;by_cases b:f=k
    .subst b;have:¬x=f:=fun z=>q z.symm
     simp [bM,this]
    .rw [if_neg b,u];by_cases p:x=k
     .simp [p]
     .simp [p,bM,b]
structure Giv (gk:List bz) (gv:List P):Prop where
 nd:gk.Nodup
 ln:gk.length=gv.length
 le:gk.length≤100
 iv:∀k v,bM k gk gv=some v->ow v
variable {s:List bz}{f:List P}
theorem Giv.put (h:Giv s f) (l:s.length≤99) (y:bz) (i:Int):∃g x,nZ y (.p (.int i)) s (f.map .p)=(g,x.map .p)/\Giv g x/\g.length≤s.length+1:=by
 obtain⟨n,b,e,c,m,r,p,t⟩:=qU y (.int i) s f h.nd h.ln;refine⟨n,b,e,⟨c,m,by lia,fun k v a=>?_⟩,r⟩;rw [t] at a;split at a
 .cases a;exact⟨_,rfl⟩
 .exact h.iv k v a
theorem vw {o:EE}{k v:EV}{L:Lc}{S n:aD}{j:Nat}{s:List bz}{f:List P}{x:Str}{i:Int} (h:Giv s f) (l:s.length≤99) (q:v L S=some (.int i,n)) (p:o L n=some (.ref j,n)) (t:k L n=some (.str x,n)) (r:n[j]? = some (.dct s (f.map .p))):∃g a,Giv g a/\g.length≤s.length+1/\fo o k v L S=some (.nx,L,n.set j (.dct g (a.map .p))):=by
 obtain⟨g,a,e,c,m⟩:=h.put l (.inr x) i;refine⟨g,a,c,m,?_⟩;have b:oo o k v L S=some (.nx,L,n.set j (.dct g (a.map .p))):=by unfold oo;rw [q,aw,p,aw,t,aw];simp only [jI,r,cd];rw [if_pos ⟨h.nd,by rw [nP];lia⟩,e]
 unfold fo;rw [b]
theorem o_ {k:bz}:∀{s:List bz}{x:List P},xm k s=false->bM k s x=none
 | [],_,_=>by cases ‹List P› <;> rfl
 | _::_,[],_=>rfl
 | a::s,v::x,h=>by unfold xm at h;rw [gB,Bool.or_eq_false_iff] at h;show (if a=k then some v else bM k s x)=none;rw [if_neg (of_decide_eq_false h.1)];exact o_ h.2
noncomputable abbrev eS (x:Str) (m w t:P) (c s:List P) (r:P):P:=.tup [.str x,m,w,t,.lst c,.lst s,r]
theorem rT (a b c d e f g:P):L2.atI [a,b,c,d,e,f,g] 3=some d:=aU (by decide) rfl
theorem F4 (a b c d e f g:P):L2.atI [a,b,c,d,e,f,g] 4=some e:=aU (by decide) rfl
theorem F0 (a b c d e f g:P):L2.atI [a,b,c,d,e,f,g] 5=some f:=aU (by decide) rfl
theorem yo (a b c d e f g:P):L2.atI [a,b,c,d,e,f,g] 6=some g:=aU (by decide) rfl
theorem J9 (a b c d e f:P):L2.atI [a,b,c,d,e,f] 2=some c:=aU (by decide) rfl
theorem LJ (a b c d e f:P):L2.atI [a,b,c,d,e,f] 5=some f:=aU (by decide) rfl
theorem Ez (G:Giv s f) (B:o=.dct s (f.map .p)\/o=.fz (.dct s f)) (E:lS c) (m:r[k]? = some z) (F:∃i:Int,i.natAbs≤999/\z=.int i) (T:w.length≤1000) (t p q:Option D) :
  (∃L,aG M J [qp a,qp (.tup r),qp st,qp A,some (.ref 0),t,p,some (.ref 1),qi (k:Int),qp c,q] [o,.lst (w.map .p)]=some (.rt (.p .non),L,[.fz (.dct s f),.lst (w.map .p)])) \/
  ∃i:Int,i.natAbs≤999/\aG M J [qp a,qp (.tup r),qp st,qp A,some (.ref 0),t,p,some (.ref 1),qi (k:Int),qp c,q] [o,.lst (w.map .p)]=some (.nx,[qp a,qp (.tup r),qp st,qp A,some (.ref 0),t,p,some (.ref 1),qi (k:Int),qp c,qi i],[.fz (.dct s f),.lst ((w++[P.int i]).map .p)]):=by
 obtain⟨x,lo,j,u,_,N,O,Q,R,rfl⟩:=E;obtain⟨K,S,rfl⟩:=F;have d:toP 9 (.ref 0) [o,.lst (w.map .p)]=some (.dct s f,[.fz (.dct s f),.lst (w.map .p)]):=by
  rcases B with rfl | rfl
  .have:qD (toP 8) (f.map .p) [SO.dct s (f.map .p),.lst (w.map .p)]=some (f,[SO.dct s (f.map .p),.lst (w.map .p)]):=kC ..;simp [toP,this]
  .rfl
 have I:ow ((bM (.inr x) s f).getD (.int K)):=by
  cases e:bM (.inr x) s f with
  | none=>exact⟨K,rfl⟩
  | some v=>exact G.iv _ v e
 obtain⟨n,h⟩:=I;have l:w.length≤1000000:=by lia
 cases b:xm (.inr x) s with
 | false=>
  have y:n=K:=by rw [o_ b] at h;exact (P.int.inj h).symm
  right;refine⟨n,by rw [y];exact S,?_⟩;rw [<- cm];simp [aG,d,cd,bu m,h,Ct,EX,lX,b,c_,l]
 | true=>
  by_cases H:lo≤n/\n≤j
  .right;refine⟨n,by lia,?_⟩;rw [<- cm];simp [aG,d,cd,bu m,h,Ct,EX,lX,b,c_,l,H.1,H.2]
  .left;refine⟨[qp a,qp (.tup r),qp st,qp A,some (.ref 0),t,p,some (.ref 1),qi (k:Int),qp (.tup [.str x,.int lo,.int j,.int u]),qi n],?_⟩;by_cases g:lo≤n
   .have C:¬n≤j:=fun z=>H ⟨g,z⟩;simp [aG,d,cd,bu m,h,Ct,EX,lX,b,g,C]
   .simp [aG,d,cd,bu m,h,Ct,EX,lX,b,g]
theorem wo (v:∀c ∈ r,∃i:Int,i.natAbs≤999/\c=.int i) (G:Giv s f) (u g:Option D):∀{l:List P}{k:Nat},(∀c ∈ l,lS c)->k+l.length=r.length->∀{n:SO},(n=.dct s (f.map .p)\/n=.fz (.dct s f))->∀{w:List P},w.length=k->r.length≤1000->∀(j H q:Option D),
  (∃L S,aO (aI [ag 8,ag 9]) (aG E C) (aR (k:Int) l) [qp b,qp (.tup r),qp st,qp A,some (.ref 0),u,g,some (.ref 1),j,H,q] [n,.lst (w.map .p)]=some (.rt (.p .non),L,S)) \/
  ∃y m t a o,y.length=l.length/\(∀c ∈ y,∃i:Int,i.natAbs≤999/\c=.int i)/\aO (aI [ag 8,ag 9]) (aG E C) (aR (k:Int) l) [qp b,qp (.tup r),qp st,qp A,some (.ref 0),u,g,some (.ref 1),j,H,q] [n,.lst (w.map .p)]=some (.nx,[qp b,qp (.tup r),qp st,qp A,some (.ref 0),u,g,some (.ref 1),m,t,a],[o,.lst ((w++y).map .p)])
 | [],k,_,_,n,_,w,_,_,j,H,q=>.inr ⟨[],j,H,q,n,rfl,fun _ h=>(by cases h),by simp [aR,aO]⟩
 | c::l,k,F,M,n,K,w,Q,N,j,H,q=>by
  simp only [bc] at M;have d:r[k]? = some (r[k]'(by lia)):=cR (by lia);unfold aR;rcases Ez (M:=E) (J:=C) (a:=b) (st:=st) (A:=A) (w:=w) G K (F c List.mem_cons_self) d (v _ (gD _)) (by lia) u g q with ⟨L,e⟩ | ⟨i,J,e⟩
  .exact .inl ⟨_,_,sS rfl e⟩
  .rcases wo (E:=E) (C:=C) (b:=b) (st:=st) (A:=A) v G u g (l:=l) (k:=k+1) (fun x O=>F x (aY _ O)) (by lia) (n:=.fz (.dct s f)) (.inr rfl) (w:=w++[.int i]) (by simp;lia) N (qi (k:Int)) (qp c) (qi i) with ⟨L,S,p⟩ | ⟨y,m,t,a,o,B,I,p⟩
   .rw [ij] at p;exact .inl ⟨L,S,(bf rfl e).trans p⟩
   .rw [ij] at p;refine .inr ⟨.int i::y,m,t,a,o,by simp [B],fun z d=>?_,?_⟩
    .rcases bj.mp d with rfl | d
     .exact⟨i,J,rfl⟩
     .exact I z d
    .rw [show w++.int i::y=w++[.int i]++y by simp];exact (bf rfl e).trans p
theorem HA {T t:List P}{R:Str}{F:P} (Q:jr R T t F) {K:List bz}{V:List P} (N:kS (more F) K V) {s:List bz}{f:List P} (G:Giv s f) (O:s.length≤99) (h p z A r:P) (x:Str) (c H:List P) (d u j l y q:Option D) :
  ∃g b,Giv g b/\dY (fP (bV (aA db (eV (ab al (vv 2) (vi 3))) (eV (vC (.non))))) (bV (aA oz (eV (ab al (ab al (vv 2) (vi 3)) (vi 2))) (eV (vt ""))))) (fo (aa 4) (ab al (ab al (vv 2) (vi 3)) (vi 2)) (ab al (vv 3) (vt "it"))) ei [qp h,qp p,qp (eS x z A F c H r),qp (.dct K V),some (.ref 0),d,u,j,l,y,q] [.dct s (f.map .p)]=some (.nx,[qp h,qp p,qp (eS x z A F c H r),qp (.dct K V),some (.ref 0),d,u,j,l,y,q],[.dct g (b.map .p)]):=by
 rcases Q with rfl | ⟨m,a,n,w,_,_,_,_,_,_,rfl⟩
 .exact⟨s,f,G,by simp [rT,db,dR]⟩
 .by_cases E:n=""
  .exact⟨s,f,G,by simp [rT,db,dR,E]⟩
  .obtain⟨i,_,I⟩:=N "it" (by simp [more]);obtain⟨B,C,J,U,e⟩:=vw (o:=aa 4) (k:=ab al (ab al (vv 2) (vi 3)) (vi 2)) (v:=ab al (vv 3) (vt "it")) (L:=[qp h,qp p,qp (eS x z A (.tup [.str m,.str a,.str n,.str w]) c H r),qp (.dct K V),some (.ref 0),d,u,j,l,y,q]) (S:=[.dct s (f.map .p)]) G O (i:=i) (n:=[.dct s (f.map .p)]) (x:=n) (by simp [I]) rfl (by simp [rT]) rfl;refine⟨B,C,J,?_⟩;rw [iH];have M:(fP (bV (aA db (eV (ab al (vv 2) (vi 3))) (eV (vC (.non))))) (bV (aA oz (eV (ab al (ab al (vv 2) (vi 3)) (vi 2))) (eV (vt ""))))) [qp h,qp p,qp (eS x z A (.tup [.str m,.str a,.str n,.str w]) c H r),qp (.dct K V),some (.ref 0),d,u,j,l,y,q] [.dct s (f.map .p)]=some (true,[.dct s (f.map .p)]):=by simp [rT,db,dR,E]
   rw [M];exact e
theorem Hz {n:Nat} (hn:6≤n) {rs:List P}{z:Str}{q:Nat}{m c a p:List P} (U:Fam rs z q m c a p) {N:List P} (hc:CellsOk c N) {x:Str}{G J l:P}{d I:List P}{u:P} (Y:Stp z m c a rs G J l d I u) {K:List bz}{V:List P} (he:kS (oq c++more l) K V) :
  ∃j:P,(j=.non\/∃H,CellsOk c H/\j=.tup H)/\pureOf (Ph n "cells_behind") [eK z q m c a p,.tup N,eS x G J l d I u,.dct K V]=some j:=by
 obtain⟨n,rfl⟩:=fR (n:=n) (by first | assumption | lia);have hN:∀x ∈ oq c++more l,i8 x:=fun x hx=>(cC.mp hx).elim (ny U.hce.1 x) (mJ l x);have hcl:=Y.cl;have hc3:=U.cl;have hcn:=hc.1;let A:List (Option D):=[qp (eK z q m c a p),qp (.tup N),qp (eS x G J l d I u),qp (.dct K V),some (.ref 0)]
 let Inv:Nat->Lc->aD->Prop:=fun i L S=>∃(s:List bz) (f:List P) (C E:Option D),Giv s f/\s.length≤i/\L=A++[C,E,none,none,none,none]/\S=[.dct s (f.map .p)]
 obtain⟨L',S',O,s,f,C,E,W,Z,rfl,rfl⟩:=bg (g:=aI [ag 5,ag 6]) (b:=d5 (Ph (n+1)) (Ph n)) (Inv:=Inv) (s:=d) (k:=0) (L:=A++[none,none,none,none,none,none]) (S:=[.dct [] []]) (fun i v L S hv hI=>by obtain⟨s,f,C,E,W,Z,rfl,rfl⟩:=hI;have hi:=aW hv;obtain⟨y,t,_,ht,rfl⟩:=Y.ch v (bF hv);obtain⟨r,er⟩:=m7 hN he ht (n:=n+1) (by lia);obtain⟨Q,R,T,h2,e⟩:=vw (o:=aa 4) (k:=vv 5) (v:=af (pureOf (Ph (n+1) "value_of")) (v2 (vv 6) (vv 3))) (L:=A++[qs y,qp t,none,none,none,none]) (S:=[.dct s (f.map .p)]) W (by lia) (i:=r) (n:=[.dct s (f.map .p)]) (by simp [A,er]) rfl rfl rfl;exact⟨_,_,_,rfl,e,Q,R,_,_,T,by lia,rfl,rfl⟩) ⟨[],[],none,none,⟨by simp,rfl,by simp,fun k v h=>by cases h⟩,by simp,rfl,rfl⟩
 simp only [A,pW,fu] at O;obtain⟨gk2,gv2,X,e2⟩:=HA Y.htk (fun x hx=>he x (dX _ hx)) W (by lia) (eK z q m c a p) (.tup N) G J u x d I C E none none none none;have B:=wo (E:=Ph (n+1)) (C:=Ph n) (b:=eK z q m c a p) (st:=eS x G J l d I u) (A:=.dct K V) hc.2 X C E (l:=c) (k:=0) U.hce.1 (by lia) (.inl rfl) (w:=[]) rfl (by lia) none none none;rw [show ((0:Nat):Int)=0 from rfl] at B;rcases B with ⟨L',S',F⟩ | ⟨M,q8',q9',q10',o,T,h2,F⟩
 .refine⟨.non,.inl rfl,?_⟩;rw [cV,ai];simp only [gA] at F;simp [-iH,bK,lU,F4,O,e2,EG,F]
 .refine⟨.tup M,.inr ⟨M,⟨T,h2⟩,rfl⟩,?_⟩;rw [cV,ai];simp only [gA,fu] at F;have t1:toP 9 (.ref 1) [o,.lst (M.map .p)]=some (.lst M,[o,.fz (.lst M)]):=ee rfl;simp [-iH,bK,lU,F4,O,e2,EG,F,t1,bD]
end My
namespace My
open PySem L2 Ev
noncomputable def lQ (B:BD) (t:Nat) (y:P):Prop:=∃s r,y=.tup [.tup s,.tup r]/\s.length≤t/\(∀a ∈ s,ow a)/\bE B r
structure GS (B:BD) (K:List bz) (V:List P) extends GC B where
 kv:Nat
 hkv:b≤kv
 hk:S0[kv]? = some (.fz (.dct K V))
noncomputable abbrev FL (i k r:Nat) (hd t m E:P) (d f b c q h:Option D) (x a e s n:Option D):Lc:=[some (.ref i),qp hd,qp t,some (.ref k),qp m,qp E,d,f,b,c,q,h,some (.ref r),x,a,e,s,n]
theorem Lm {B:BD} (J:Pln B.fams B.roads B.wishes) (s:Places B) {n:Nat} (Y:3≤n) {K:List bz}{V:List P} (hd v:Int) {m:Str} (hm:PyData.strOk m=true) {t:Nat} (ht:t≤10) {k:List P} (has:k.length≤t) (T:∀a ∈ k,ow a) {r:List P} (hr:bE B r) (A F E:P) (l o H q:Option D) {y:P} (hy:Ck y) :
  ∃Z:List P,Z.length≤1/\(∀z ∈ Z,lQ B (t+1) z)/\∀(G:GS B K V) (L:Lc) (S:aD) (c:List P),(∃d i j x,L=FL G.i G.kv G.r (.int hd) A F E d l o H q (qp (.tup [.str m,.int v])) (qp (.tup k)) (qp (.tup r)) i j x)->Fr G.b G.S0 S->S[G.r]? = some (.lst (c.map .p))->c.length+1≤1000 ->
   ∃L1 L2 w,aI [ag 15,ag 16] y L=some L1/\eC (Ph n) (Ph (n-1)) L1 S=some (.nx,L2,w)/\(∃d i j x,L2=FL G.i G.kv G.r (.int hd) A F E d l o H q (qp (.tup [.str m,.int v])) (qp (.tup k)) (qp (.tup r)) i j x)/\Fr G.b G.S0 w/\w[G.r]? = some (.lst ((c++Z).map .p)):=by
 obtain⟨f,C,rfl,hbl,U,X⟩:=hy;obtain⟨ans,Q,ep⟩:=A5 J s Y hd v hm X hr;have N:=cW (xs:=k) (c:=f) (by lia);rcases Q with rfl | ⟨p,W,rfl⟩
 .refine⟨[],by simp,fun _ h=>(by cases h),fun G L S c I O R hM=>?_⟩;obtain⟨d,i,j,x,rfl⟩:=I;obtain⟨w,e,u⟩:=z5 (b:=G.b) (g:=Ph n "posted") (q:=ae (aa 0) (ae (aa 14) (ae (aa 1) (ae (aa 16) (ae (aa 11) ba))))) (L:=FL G.i G.kv G.r (.int hd) A F E d l o H q (qp (.tup [.str m,.int v])) (qp (.tup k)) (qp (.tup r)) (qp (.tup f)) (ql C) x) (S:=S) (l:=[.ref G.i,.p (.tup r),.p (.int hd),.p (.lst C),.p (.tup [.str m,.int v])]) rfl (ep G.b G.i S (G.bd.fr O)) (Fr.refl _ _);refine⟨FL G.i G.kv G.r (.int hd) A F E d l o H q (qp (.tup [.str m,.int v])) (qp (.tup k)) (qp (.tup r)) (qp (.tup f)) (ql C) x,FL G.i G.kv G.r (.int hd) A F E d l o H q (qp (.tup [.str m,.int v])) (qp (.tup k)) (qp (.tup r)) (qp (.tup f)) (ql C) (qp .non),w,rfl,?_,⟨_,_,_,_,rfl⟩,O.trans u,?_⟩
  .refine (aj (e:=FL G.i G.kv G.r (.int hd) A F E d l o H q (qp (.tup [.str m,.int v])) (qp (.tup k)) (qp (.tup r)) (qp (.tup f)) (ql C) (qp .non)) (b:=w) ?_).trans ?_
   .rw [du,pe,e];rfl
   .simp [db,dR]
  .rw [List.append_nil];exact u.hi _ _ (aM G.le G.hr) R
 .refine⟨[.tup [.tup (k++f),.tup p]],by simp,fun z hz=>⟨k++f,p,by simpa using hz,by rw [List.length_append];lia,fun a ha=>(cC.mp ha).elim (T a) (U a),W⟩,fun G L S c I O R hM=>?_⟩;obtain⟨d,i,j,x,rfl⟩:=I;obtain⟨w,e,u⟩:=z5 (b:=G.b) (g:=Ph n "posted") (q:=ae (aa 0) (ae (aa 14) (ae (aa 1) (ae (aa 16) (ae (aa 11) ba))))) (L:=FL G.i G.kv G.r (.int hd) A F E d l o H q (qp (.tup [.str m,.int v])) (qp (.tup k)) (qp (.tup r)) (qp (.tup f)) (ql C) x) (S:=S) (l:=[.ref G.i,.p (.tup r),.p (.int hd),.p (.lst C),.p (.tup [.str m,.int v])]) rfl (ep G.b G.i S (G.bd.fr O)) (Fr.refl _ _);have M:=u.hi _ _ (aM G.le G.hr) R;refine⟨FL G.i G.kv G.r (.int hd) A F E d l o H q (qp (.tup [.str m,.int v])) (qp (.tup k)) (qp (.tup r)) (qp (.tup f)) (ql C) x,FL G.i G.kv G.r (.int hd) A F E d l o H q (qp (.tup [.str m,.int v])) (qp (.tup k)) (qp (.tup r)) (qp (.tup f)) (ql C) (qp (.tup p)),w.set G.r (.lst ((c++[P.tup [.tup (k++f),.tup p]]).map .p)),rfl,?_,⟨_,_,_,_,rfl⟩,(O.trans u).set G.le G.hr _,gF M⟩;refine (aj (e:=FL G.i G.kv G.r (.int hd) A F E d l o H q (qp (.tup [.str m,.int v])) (qp (.tup k)) (qp (.tup r)) (qp (.tup f)) (ql C) (qp (.tup p))) (b:=w) ?_).trans ?_
  .rw [du,pe,e];rfl
  .rw [iH];have hc:(bV (aA db (aa 17) (eV (vC .non)))) (FL G.i G.kv G.r (.int hd) A F E d l o H q (qp (.tup [.str m,.int v])) (qp (.tup k)) (qp (.tup r)) (qp (.tup f)) (ql C) (qp (.tup p))) w=some (true,w):=by simp [db,dR]
   rw [hc,aw,if_pos rfl];exact iU rfl M (by simp [N]) M (by lia)
theorem Ll {B:BD} (J:Pln B.fams B.roads B.wishes) (s:Places B) {n:Nat} (Y:4≤n) {K:List bz}{V:List P}{hd:Nat}{O:Str}{C:Nat}{o p A H:List P} (I:Fam B.roads O C o p A H) (T:(av B.fams)[hd]? = some (eK O C o p A H)) {E:List P} (hw:E.length=A.length) (U:∀w ∈ E,ow w) {a h:Str}
  (hc:(a="who"/\P.str h ∈ A)\/((a="all"\/a="any")/\∃r ∈ B.roads,rA r=O/\h=rB r)) (v:Int) {m:Str} (hm:PyData.strOk m=true) {t:Nat} (ht:t≤10) (N F:P) (j l:Option D) {W:List P} (hW:∀y ∈ W,lQ B t y) :
  ∃ys:List P,ys.length≤4 * W.length/\(∀z ∈ ys,lQ B (t+1) z)/\∀(G:GS B K V) (L:Lc) (S:aD) (u:List P),(∃i f d q e k,L=FL G.i G.kv G.r (.int (hd:Int)) N F (.tup E) i j l (qs a) (qs h) (qp (.tup [.str m,.int v])) f d q e k)->Fr G.b G.S0 S->S[G.r]? = some (.lst (u.map .p))->u.length+4 * W.length≤1000 ->
   ∃L' R,aO (aI [ag 13,ag 14]) (eB (Ph n) (Ph (n-1))) W L S=some (.nx,L',R)/\(∃i f d q e k,L'=FL G.i G.kv G.r (.int (hd:Int)) N F (.tup E) i j l (qs a) (qs h) (qp (.tup [.str m,.int v])) f d q e k)/\Fr G.b G.S0 R/\R[G.r]? = some (.lst ((u++ys).map .p)):=by
 obtain⟨tg,h1,h2,h3⟩:=tg_ok J Y I T hw U hc;refine gy (q:=GS B K V) (c:=4) (M:=1000) (Sp:=fun G S=>Fr G.b G.S0 S) (r:=fun G=>G.r) (Q:=lQ B (t+1)) (p:=fun G L=>∃i f d q e k,L=FL G.i G.kv G.r (.int (hd:Int)) N F (.tup E) i j l (qs a) (qs h) (qp (.tup [.str m,.int v])) f d q e k) (fun x hx=>?_);obtain⟨as,rs,rfl,ha1,ha2,hr⟩:=hW x hx;obtain⟨ys,k1,k2,k3⟩:=gy (q:=GS B K V) (c:=1) (M:=1000) (g:=aI [ag 15,ag 16]) (b:=eC (Ph n) (Ph (n-1))) (e:=tg) (Sp:=fun G S=>Fr G.b G.S0 S) (r:=fun G=>G.r) (Q:=lQ B (t+1)) (p:=fun G L=>∃i q e k,L=FL G.i G.kv G.r (.int (hd:Int)) N F (.tup E) i j l (qs a) (qs h) (qp (.tup [.str m,.int v])) (qp (.tup as)) (qp (.tup rs)) q e k)
  (fun y hy=>Lm J s (by lia) (hd:Int) v hm ht ha1 ha2 hr N F (.tup E) j l (qs a) (qs h) (h2 y hy))
 refine⟨ys,by lia,k2,fun G L S u hLp fr hS hM=>?_⟩;obtain⟨i,f,d,q,e,k,rfl⟩:=hLp;obtain⟨S1,e1,fr1⟩:=h3 G.b G.i S (G.bd.fr fr);obtain⟨S2,e2,X⟩:=z5 (b:=G.b) (g:=Ph n "targets_of") (q:=ae (aa 0) (ae (aa 1) (ae (aa 9) (ae (aa 10) (ae (aa 5) ba))))) (L:=FL G.i G.kv G.r (.int (hd:Int)) N F (.tup E) i j l (qs a) (qs h) (qp (.tup [.str m,.int v])) (qp (.tup as)) (qp (.tup rs)) q e k) (S:=S) (l:=[.ref G.i,.p (.int (hd:Int)),.p (.str a),.p (.str h),.p (.tup E)]) rfl e1 fr1;obtain⟨L',R,e3,hL',fr3,h4⟩:=k3 G _ S2 u ⟨i,q,e,k,rfl⟩ (fr.trans X) (X.hi _ _ (aM G.le G.hr) hS) (by lia);obtain⟨d6',Z,q16',q17',rfl⟩:=hL';refine⟨FL G.i G.kv G.r (.int (hd:Int)) N F (.tup E) i j l (qs a) (qs h) (qp (.tup [.str m,.int v])) (qp (.tup as)) (qp (.tup rs)) q e k,FL G.i G.kv G.r (.int (hd:Int)) N F (.tup E) d6' j l (qs a) (qs h) (qp (.tup [.str m,.int v])) (qp (.tup as)) (qp (.tup rs)) Z q16' q17',R,rfl,?_,⟨_,_,_,_,_,_,rfl⟩,fr3,h4⟩;unfold eB;rw [bC,fW,e2];exact e3
theorem yh (r:Fr b x S) (e:b≤x.length) (h:lI x S d W):∃a,toP 9 d (S++[.lst []])=some (.lst W,a)/\Fr b x a/\a[S.length]? = some (.lst []):=by
 have f:=r.trans (Fr.app b S [.lst []]);rcases h with rfl | ⟨k,s,rfl,h⟩
 .exact⟨_,by simp,f,gu _ _⟩
 .have l:=h.lt;refine⟨_,(h.fr (Fr.app b S [.lst []])).frz,f.set e s _,?_⟩;rw [a7 (by lia)];exact gu _ _
section
variable {B:BD} (J:Pln B.fams B.roads B.wishes) (s:Places B) {n:Nat} (Y:5≤n) {K:List bz}{V:List P}{hd:Nat}{O:Str}{C:Nat}{o p A H:List P} (I:Fam B.roads O C o p A H) (T:(av B.fams)[hd]? = some (eK O C o p A H)) {E:List P} (hw:E.length=A.length) (U:∀w ∈ E,ow w) {N:List P} (q:∀x ∈ N,i8 x) (a:kS N K V)
include J s Y I T hw U q a
theorem Kt (h R:P):∀{H:List P},(∀c ∈ H,j6 O B.roads A N c)->∀{t:Nat},t+H.length≤10->∀{W:List P},(∀y ∈ W,lQ B t y)->4 ^ H.length * W.length≤900 ->
  ∃ys:List P,ys.length≤4 ^ H.length * W.length/\(∀y ∈ ys,lQ B (t+H.length) y)/\∀(b i:Nat) (z S:aD) (w:Nat) (o:D) (q7 q8 q9 Z F j e k f p d:Option D),Bd B b i z->b≤w->z[w]? = some (.fz (.dct K V))->Fr b z S->lI z S o W ->
   ∃L' S' d',aO (aI [ag 7,ag 8,ag 9,ag 10]) (eA (Ph n) (Ph (n-1))) H [some (.ref i),qi (hd:Int),qp h,some (.ref w),qp R,qp (.tup E),some o,q7,q8,q9,Z,F,j,e,k,f,p,d] S=some (.nx,L',S')/\L'[6]? = some (some d')/\Fr b z S'/\lI z S' d' ys
 | [],_,t,_,W,hW,_=>⟨W,by simp,by simpa using hW,fun b i z S w o q7 q8 q9 Z F j e k f p d _ _ _ fr ha=>⟨_,S,o,rfl,rfl,fr,ha⟩⟩
 | c::H,l,t,ht,W,hW,X=>by
  simp only [bc] at ht;rw [bc,Nat.pow_succ,Nat.mul_assoc] at X;have h4:4 * W.length≤900:=aM (Nat.le_mul_of_pos_left _ (Nat.pow_pos (by decide))) X;obtain⟨m,tr,g,u,hm,_,hsum,hcw,rfl⟩:=l c List.mem_cons_self;obtain⟨v,ev⟩:=m7 q a hsum (n:=n) (by lia);obtain⟨ys,h1,h2,h3⟩:=Ll J s (n:=n) (by lia) (K:=K) (V:=V) I T hw U hcw v hm (t:=t) (by lia) h R (qs m) (qp tr) hW;obtain⟨zs,k1,k2,k3⟩:=Kt h R (H:=H) (fun x hx=>l x (aY _ hx)) (t:=t+1) (by lia) (W:=ys) h2 (aM (Nat.mul_le_mul_left _ h1) X);refine⟨zs,?_,fun y hy=>by rw [bc,show t+(H.length+1)=t+1+H.length by lia];exact k2 y hy,fun b i z S w o q7 q8 q9 Z F j e k f p d hB Y hk fr ha=>?_⟩
  .rw [bc,Nat.pow_succ,Nat.mul_assoc];exact aM k1 (Nat.mul_le_mul_left _ h1)
  .obtain⟨S1,e1,fr1,hS1⟩:=yh fr hB.le ha;obtain⟨L2,S2,e2,⟨d6',C,G,L,M,Q,rfl⟩,fr2,hS2⟩:=h3 { b:=b,i:=i,S0:=z,r:=S.length,bd:=hB,hr:=fr.len,kv:=w,hkv:=Y,hk:=hk } (FL i w S.length (.int (hd:Int)) h R (.tup E) (some o) (qs m) (qp tr) (qs g) (qs u) (qp (.tup [.str m,.int v])) e k f p d) S1 [] ⟨_,_,_,_,_,_,rfl⟩ fr1 hS1 (by simp;lia);obtain⟨L',S',d',e3,h5,fr3,ha3⟩:=k3 b i z S2 w (.ref S.length) (qs m) (qp tr) (qs g) (qs u) (qp (.tup [.str m,.int v])) (some (.ref S.length)) C G L M Q hB Y hk fr2 (.inr ⟨S.length,fr.len,rfl,.inl hS2⟩);refine⟨L',S',d',?_,h5,fr3,ha3⟩;refine (bf (s:=[some (.ref i),qi (hd:Int),qp h,some (.ref w),qp R,qp (.tup E),some o,qs m,qp tr,qs g,qs u,F,j,e,k,f,p,d]) rfl ?_).trans e3;have tv:toP 9 (.ref w) S=some (.dct K V,S):=by
    have:=fr.hi _ _ Y hk;simp [toP,this]
   unfold eA;refine (aj (e:=[some (.ref i),qi (hd:Int),qp h,some (.ref w),qp R,qp (.tup E),some o,qs m,qp tr,qs g,qs u,qp (.tup [.str m,.int v]),j,e,k,f,p,d]) (b:=S) ?_).trans ?_
   .simp [tv,ev]
   refine (aj (e:=FL i w S.length (.int (hd:Int)) h R (.tup E) (some o) (qs m) (qp tr) (qs g) (qs u) (qp (.tup [.str m,.int v])) e k f p d) (b:=S++[.lst []]) ?_).trans ?_
   .simp
   refine (aj (e:=FL i w S.length (.int (hd:Int)) h R (.tup E) d6' (qs m) (qp tr) (qs g) (qs u) (qp (.tup [.str m,.int v])) C G L M Q) (b:=S2) ?_).trans ?_
   .rw [bC,fW];show aF (aF (toP 9 o (S++[.lst []])) _) _=_;rw [e1];exact e2
   .rfl
theorem F_ (l:∀c ∈ m,j6 O B.roads A N c) (r:m.length≤3) (L:bE B u) :
  ∃f:List P,f.length≤64/\(∀y ∈ f,lQ B 3 y)/\∀(b i:Nat) (S:aD) (k:Nat),Bd B b i S->b≤k->S[k]? = some (.fz (.dct K V)) ->
   ∃d x,Ph (n+1) "sendings" [.ref i,.p (.int (hd:Int)),.p (.lst m),.ref k,.p (.tup u),.p (.tup E)] S=some (d,x)/\Fr b S x/\lI S x d f:=by
 have Z:4 ^ m.length≤64:=by have:=Nat.pow_le_pow_right (show 0 < 4 by decide) r;simpa using this
 obtain⟨f,z,o,H⟩:=Kt J s Y I T hw U q a (.lst m) (.tup u) l (t:=0) (by lia) (W:=[.tup [.tup [],.tup u]]) (fun y p=>⟨[],u,by simpa using p,by simp,fun _ h=>(by cases h),L⟩) (by simp;lia);simp only [List.length_singleton,Nat.mul_one] at z;refine⟨f,by lia,fun y p=>?_,fun b i S k C v G=>?_⟩
 .obtain⟨w,R,e,k1,M,Q⟩:=o y p;exact⟨w,R,e,by lia,M,Q⟩
 .obtain⟨X,x,g,e,F,j,D⟩:=H b i S S k (.p (.lst [.tup [.tup [],.tup u]])) none none none none none none none none none none none C v G (Fr.refl _ _) (.inl rfl);refine⟨g,x,?_,j,D⟩;obtain⟨n,rfl⟩:=LL (n:=n) (by first | assumption | lia);rw [gh];simp only [j3] at e;simp [cJ,dM,e,F]
end
noncomputable def u5 (f x:P):Prop:=∃O C o p A H,f=eK O C o p A H/\∃(r:Nat) (c E:List P),x=.tup [.int (r:Int),.tup c,.tup E]/\r < o.length/\CellsOk p c/\E.length=A.length/\∀w ∈ E,ow w
structure StL (B:BD) (hs rds:List P):Prop where
 hl:hs.length=(av B.fams).length
 hh:∀(k:Nat) f x,(av B.fams)[k]? = some f->hs[k]? = some x->u5 f x
 hr:bE B rds
noncomputable def xQ (B:BD) (st:P):Prop:=∃l u,st=.tup [.tup l,.tup u]/\StL B l u
noncomputable def xh (w:Str) (q:Int->Prop) (d:P):Prop:=∃k x h,d=.tup (.str w::.int k::x::h)/\q k/\((∃s,x=.str s)\/∃i,x=.int i)/\∀y ∈ P.str w::.int k::x::h,bR 2 y=true
noncomputable def h_ (B:BD) (w:Str) (q:Int->Prop) (y:P):Prop:=∃d st,y=.tup [d,st]/\xh w q d/\xQ B st
noncomputable abbrev SL (i:Nat) (st hd step y f r:P) (n k b q h x a e s:Option D):Lc:=[some (.ref i),qp st,qp hd,qp step,qp y,qp f,qp r,n,k,b,q,h,x,a,e,s]
theorem En {p:List P}{K:List bz}{V:List P} (a:kS (oq p) K V) {n:List bz}{f:List P}{z:Int} (c:z.natAbs≤999) (h:∀k,bM k n f=if (.inr "it":bz)=k then some (.int z) else bM k K V):kS (oq p++[.str "it"]) n f:=fun x s=>by
 by_cases q:("it":Str)=x
 .exact⟨z,c,by rw [h,if_pos (by rw [q])]⟩
 .rcases cC.mp s with s | s
  .obtain⟨i,b,e⟩:=a x s;exact⟨i,b,by rw [h,if_neg fun w=>q (i_ w)];exact e⟩
  .exact absurd (P.str.inj (je.mp s)).symm q
variable {B:BD}{n:Nat}{hd:Nat}{O:Str}{C:Nat}{o:List P}{p:List P}{A:List P}{H:List P}{u:List P}
theorem F9 (J:Pln B.fams B.roads B.wishes) (Y:2≤n) (I:Fam B.roads O C o p A H) (T:CellsOk p d) (X:bE B u) (ht:jr O B.roads A tk) (hy:(tk=.non/\y=.non)\/(tk≠.non/\tS B u hd y)) :
  ∃(K:List bz) (V E:List P),kS (oq p++more tk) K V/\bE B E/\∀(b i:Nat) (S:aD) (st step f r:P) (g j t q x a c:Option D),Bd B b i S->∃R,
   dY (bV (aA db (aa 4) (eV (vC (.non))))) (ac (ak 11 (uP (dF (aT Att) (aa 0) "places") (v2 (ab al (vv 4) (vi 0)) (vv 2))))
    (ac (fo (aa 10) (vt "it") (ab al (ab al (ab al (vv 9) (vv 11)) (ab al (vv 4) (vi 1))) (vi 1)))
    (ak 9 (eV (af (pureOf (Ph n "replaced")) (v3 (vv 9) (vv 11) (af (pureOf (Ph n "without")) (v2 (ab al (vv 9) (vv 11)) (ab al (vv 4) (vi 1)))))))))) ei
    (SL i st (.int (hd:Int)) step y f r g j (qp (.tup u)) (some (.ref S.length)) t q x a c) (S++[.dct (cG p) (d.map .p)])=some (.nx,SL i st (.int (hd:Int)) step y f r g j (qp (.tup E)) (some (.ref S.length)) R q x a c,S++[.dct K (V.map .p)]):=by
 have F:=qE T;rcases hy with ⟨rfl,rfl⟩ | ⟨Q,s,v,k,G,rfl,hg,hk,N,w,Z⟩
 .exact⟨cG p,d,u,by simpa [more] using F,X,fun b i S st step f r g j t q x a c hB=>⟨t,by simp [db,dR]⟩⟩
 .have hm:more tk=[.str "it"]:=by
   cases tk with
   | non=>exact absurd rfl Q
   | _=>rfl
  have hls3:=w.1;have L:G[v]? = some G[v]:=cR Z;obtain⟨m,z,_,hz,hzl⟩:=w.2 G[v] (gD _);rw [hzl] at L;have W:(cG p).length=d.length:=by rw [T.1];simp [cG]
  obtain⟨K,V,e,h1,h2,h3,h4,h5⟩:=qU (.inr "it") (.int z) (cG p) d (jq I.hce) W;have ew:=B5 Y (xs:=G) (k:=v) (by lia);have hpl:=lH J;have hrl:=X.1;have er:=np Y (xs:=u) (k:=k) hk (by lia) (.tup (G.eraseIdx v));have hcl:=I.cl;have M:(cG p).length≤1000000:=by have:=T.1;lia
  refine⟨K,V,u.set k (.tup (G.eraseIdx v)),by rw [hm];exact En F hz h5,X.set k ⟨aM (List.length_eraseIdx_le ..) w.1,fun l h=>w.2 l (List.mem_of_mem_eraseIdx h)⟩,fun b i S st step f r g j t q x a c hB=>⟨qi (k:Int),?_⟩⟩;obtain⟨jh,jp,jl,jm,mk,mv,h⟩:=hB.fr (Fr.app b S [.dct (cG p) (d.map .p)]);rw [iH];have U:(bV (aA db (aa 4) (eV (vC (.non))))) (SL i st (.int (hd:Int)) step (.tup [.int (s:Int),.int (v:Int)]) f r g j (qp (.tup u)) (some (.ref S.length)) t q x a c) (S++[.dct (cG p) (d.map .p)])=some (true,S++[.dct (cG p) (d.map .p)]):=by simp [db,dR]
  rw [U,aw,if_pos rfl];refine (aj (e:=SL i st (.int (hd:Int)) step (.tup [.int (s:Int),.int (v:Int)]) f r g j (qp (.tup u)) (some (.ref S.length)) (qi (k:Int)) q x a c) (b:=S++[.dct (cG p) (d.map .p)]) ?_).trans ?_
  .rw [du,wb,h.places rfl];simp [iI,h.pl,cn,cd,hg]
  refine (aj (e:=SL i st (.int (hd:Int)) step (.tup [.int (s:Int),.int (v:Int)]) f r g j (qp (.tup u)) (some (.ref S.length)) (qi (k:Int)) q x a c) (b:=S++[.dct K (V.map .p)]) ?_).trans ?_
  .have e2:oo (aa 10) (vt "it") (ab al (ab al (ab al (vv 9) (vv 11)) (ab al (vv 4) (vi 1))) (vi 1)) (SL i st (.int (hd:Int)) step (.tup [.int (s:Int),.int (v:Int)]) f r g j (qp (.tup u)) (some (.ref S.length)) (qi (k:Int)) q x a c) (S++[.dct (cG p) (d.map .p)])=some (.nx,SL i st (.int (hd:Int)) step (.tup [.int (s:Int),.int (v:Int)]) f r g j (qp (.tup u)) (some (.ref S.length)) (qi (k:Int)) q x a c,S++[.dct K (V.map .p)]):=by
    simp [oo,bu N,bu L,jI,cd,jq I.hce,M,e]
   unfold fo;rw [e2]
  .simp [bu N,ew,er]
variable {l:List P}
theorem C9 (h:StL B l u) (T:(av B.fams)[hd]? = some (eK O C o p A H)) (s:r < o.length) (n:CellsOk p c) (b:E.length=A.length) (m:∀w ∈ E,ow w) (t:bE B d):StL B (l.set hd (.tup [.int (r:Int),.tup c,.tup E])) d:=by
 refine⟨by rw [eG];exact h.hl,fun k f x e a=>?_,t⟩;by_cases q:hd=k
 .subst q;rw [T] at e;cases e;rw [dP (by rw [h.hl];exact aW T)] at a;cases a;exact⟨O,C,o,p,A,H,rfl,r,c,E,rfl,s,n,b,m⟩
 .rw [a7 q] at a;exact h.hh k f x e a
theorem F7 (J:Pln B.fams B.roads B.wishes) (s:Places B) (Y:8≤n) (I:Fam B.roads O C o p A H) (T:(av B.fams)[hd]? = some (eK O C o p A H)) (hS:StL B l u) (hx:PyData.strOk x=true) (hSt:Stp O o p A B.roads rm wh tk chg sn rm2) (hy:(tk=.non/\y=.non)\/(tk≠.non/\tS B u hd y)) :
  ∃ys:List P,ys.length≤64/\(∀z ∈ ys,h_ B "step" (·=(hd:Int)) z)/\∀(b i:Nat) (S:aD),Bd B b i S->∃d S',Ph n "step_ends" [.ref i,.p (.tup [.tup l,.tup u]),.p (.int (hd:Int)),.p (eS x rm wh tk chg sn rm2),.p y] S=some (d,S')/\Fr b S S'/\lI S S' d ys:=by
 obtain⟨n,rfl⟩:=fR (n:=n) (by first | assumption | lia);have hhd:hd < l.length:=by rw [hS.hl];exact aW T
 have hhx:l[hd]? = some l[hd]:=cR hhd;obtain⟨_,_,_,_,_,_,hfe,r,cs,E,hxe,hr1,hcs,hwl,U⟩:=hS.hh hd _ _ T hhx;rw [hxe] at hhx;obtain⟨rfl,hce,rfl,rfl,rfl,rfl⟩:O=_/\C=_/\o=_/\p=_/\A=_/\H=_:=by simp only [P.tup.injEq,ir,P.str.injEq,P.int.injEq,P.lst.injEq,i9] at hfe;obtain⟨m,b,c,d,e,f⟩:=hfe;exact⟨m,Int.ofNat.inj b,c,d,e,f⟩
 subst hce;obtain⟨K,V,F,a,hr',eit⟩:=F9 J (n:=n+1) (by lia) I hcs hS.hr hSt.htk hy;obtain⟨ans,hans,ecb⟩:=Hz (n:=n+1) (by lia) I hcs (x:=x) hSt a;have hy2:(tk=.non/\y=.non)\/(tk≠.non/\zu y):=by
  rcases hy with h | ⟨h1,t,sp,_,_,e,_⟩
  .exact .inl h
  .exact .inr ⟨h1,t,sp,e⟩
 obtain⟨Z,hwl',hwi',ewb⟩:=Fz (n:=n+1) (by lia) I hwl U hSt.htk hy2;have q:∀x ∈ oq p++more tk,i8 x:=fun x hx=>(cC.mp hx).elim (ny I.hce.1 x) (mJ tk x);obtain⟨W,hW1,hW2,esd⟩:=F_ J s (n:=n) (by lia) I T hwl' hwi' q a hSt.hsn hSt.sl hr';let st:P:=.tup [.tup l,.tup u]
 let step:P:=eS x rm wh tk chg sn rm2
 let v:P:=eK O C o p A H
 have pre:∀(b i:Nat) (S:aD),Bd B b i S->∃N,∀g:ES,(ac (ak 5 (dA (mT Tb (Ph (n+1))) (aa 0) "family_of" (ae (aa 2) ba)))
   (ac (sg (aI [ag 6,ag 7,ag 8]) (ab al (ab al (vv 1) (vi 0)) (vv 2)))
   (ac (ak 9 (eV (ab al (vv 1) (vi 1))))
   (ac (ak 10 (fX (Ph (n+1) "values_of") (ae (aa 5) (ae (aa 7) ba))))
   (ac (dY (bV (aA db (aa 4) (eV (vC (.non))))) (ac (ak 11 (uP (dF (aT Att) (aa 0) "places") (v2 (ab al (vv 4) (vi 0)) (vv 2))))
    (ac (fo (aa 10) (vt "it") (ab al (ab al (ab al (vv 9) (vv 11)) (ab al (vv 4) (vi 1))) (vi 1)))
    (ak 9 (eV (af (pureOf (Ph (n+1) "replaced")) (v3 (vv 9) (vv 11) (af (pureOf (Ph (n+1) "without")) (v2 (ab al (vv 9) (vv 11)) (ab al (vv 4) (vi 1)))))))))) ei) g)))))
   [some (.ref i),qp st,qi (hd:Int),qp step,qp y,none,none,none,none,none,none,none,none,none,none,none] S=g (SL i st (.int (hd:Int)) step y v (.int (r:Int)) (qp (.tup cs)) (qp (.tup E)) (qp (.tup F)) (some (.ref S.length)) N none none none none) (S++[.dct K (V.map .p)]):=fun b i S hB=>by
  have ef:=uO (n:=n+1) (by lia) hB T;obtain⟨N,e5⟩:=eit b i S st step v (.int (r:Int)) (qp (.tup cs)) (qp (.tup E)) none none none none none hB;obtain⟨jh,jp,jl,jm,mk,mv,h⟩:=hB;refine⟨N,fun g=>?_⟩;refine (aj (e:=[some (.ref i),qp st,qi (hd:Int),qp step,qp y,qp v,none,none,none,none,none,none,none,none,none,none]) (b:=S) ?_).trans ?_
  .rw [du,h.meth rfl (Ii _) Im (l:=[.p (.int (hd:Int))]) (by simp),ef];rfl
  refine (aj (e:=SL i st (.int (hd:Int)) step y v (.int (r:Int)) (qp (.tup cs)) (qp (.tup E)) none none none none none none none) (b:=S) ?_).trans ?_
  .simp [st,bu hhx]
  refine (aj (e:=SL i st (.int (hd:Int)) step y v (.int (r:Int)) (qp (.tup cs)) (qp (.tup E)) (qp (.tup u)) none none none none none none) (b:=S) ?_).trans ?_
  .simp [st]
  refine (aj (e:=SL i st (.int (hd:Int)) step y v (.int (r:Int)) (qp (.tup cs)) (qp (.tup E)) (qp (.tup u)) (some (.ref S.length)) none none none none none) (b:=S++[.dct (cG p) (cs.map .p)]) ?_).trans ?_
  .rw [du,xz];show aF (aF (some ([D.p v,D.p (.tup cs)],S)) _) _=_;rw [aw,vc (n:=n+1) (by lia) I hcs S];rfl
  exact aj e5
 have tv:∀S:aD,toP 9 (.ref S.length) (S++[.dct K (V.map .p)])=some (.dct K V,S++[.fz (.dct K V)]):=fun S=>by have:qD (toP 8) (V.map .p) (S++[.dct K (V.map .p)])=some (V,S++[.dct K (V.map .p)]):=kC ..;simp [toP,this]
 rcases hans with rfl | ⟨R,hcs',rfl⟩
 .refine⟨[],by simp,fun _ h=>(by cases h),fun b i S hB=>⟨.p (.lst []),S++[.fz (.dct K V)],?_,Fr.app _ _ _,.inl rfl⟩⟩;obtain⟨N,ep⟩:=pre b i S hB;rw [d7];show (match bP _ _ [some (.ref i),qp st,qi (hd:Int),qp step,qp y,none,none,none,none,none,none,none,none,none,none,none] S with | some (.rt d,_,S')=>some (d,S') | some (.nx,_,S')=>some (.p .non,S') | _=>none)=_;unfold bP;rw [ep];simp only [v,step] at ecb ⊢;simp [tv,ecb,rV,dR]
 .obtain⟨j,hj,ej⟩:=kF (xs:=o) (s:=rm2) (fun z hz=>(I.hro z hz).ok 19) hSt.h2;have h4:=gx J;have hsl:=hS.hl;have er:=np (n:=n+1) (by lia) (xs:=l) (k:=hd) hhd (by lia) (.tup [.int (j:Int),.tup R,.tup Z]);have oy:bR 2 y=true:=by
   rcases hy2 with ⟨_,rfl⟩ | ⟨_,t,sp,rfl⟩
   .rfl
   .simp
  generalize hhs:l.set hd (.tup [.int (j:Int),.tup R,.tup Z])=X at er;have hst':∀{rs:List P},bE B rs->StL B X rs:=fun hr=>by rw [<- hhs];exact C9 hS T hj hcs' hwl' hwi' hr
  obtain⟨ys,h1,h2,h3⟩:=gy (q:=GC B) (g:=aI [ag 14,ag 15]) (b:=fA (Ph (n+1)) (Ph n)) (Sp:=fun G S=>Fr G.b G.S0 S) (r:=fun G=>G.r) (Q:=h_ B "step" (·=(hd:Int))) (c:=1) (M:=1000) (e:=W)
   (p:=fun G L=>∃N q14 q15,L=SL G.i st (.int (hd:Int)) step y v (.int (r:Int)) (qp (.tup R)) (qp (.tup Z)) (qp (.tup F)) (some (.ref G.S0.length)) N (qp (.tup X)) (some (.ref G.r)) q14 q15) (fun w hw=>by
    obtain⟨as,rs,rfl,ha1,ha2,hr⟩:=hW2 w hw;have oas:bR 2 (.tup as)=true:=bn.mpr fun m ha=>(ha2 m ha).ok 1;refine⟨[.tup [.tup [.str "step",.int (hd:Int),.str x,y,.tup as],.tup [.tup X,.tup rs]]],by simp,fun z hz=>⟨.tup [.str "step",.int (hd:Int),.str x,y,.tup as],.tup [.tup X,.tup rs],by simpa using hz,⟨_,_,_,rfl,rfl,.inl ⟨x,rfl⟩,fun d hd=>?_⟩,X,rs,rfl,hst' hr⟩,fun G L S acc hLp fr hS' hM=>?_⟩
    .simp only [bj,dU,dS] at hd;rcases hd with rfl | rfl | rfl | rfl | rfl
     .simp
     .simp
     .simpa using hx
     .exact oy
     .exact oas
    .obtain⟨N,q14,q15,rfl⟩:=hLp;refine⟨SL G.i st (.int (hd:Int)) step y v (.int (r:Int)) (qp (.tup R)) (qp (.tup Z)) (qp (.tup F)) (some (.ref G.S0.length)) N (qp (.tup X)) (some (.ref G.r)) (qp (.tup as)) (qp (.tup rs)),_,_,rfl,iU rfl hS' (y:=.tup [.tup [.str "step",.int (hd:Int),.str x,y,.tup as],.tup [.tup X,.tup rs]]) ?_ hS' (by lia),⟨_,_,_,rfl⟩,fr.set G.le G.hr _,gF hS'⟩;simp [step])
  refine⟨ys,by lia,h2,fun b i S hB=>?_⟩;obtain⟨N,ep⟩:=pre b i S hB;have frA:=Fr.app b S [.fz (.dct K V),.lst []];have hk0:(S++[SO.fz (.dct K V),.lst []])[S.length]? = some (.fz (.dct K V)):=by simp
  have hk1:(S++[SO.fz (.dct K V),.lst []])[S.length+1]? = some (.lst []):=by simp
  obtain⟨d1,S1,e1,fr1,an1⟩:=esd b i (S++[.fz (.dct K V),.lst []]) S.length (hB.fr frA) hB.le hk0;have hb1:b≤(S++[SO.fz (.dct K V),.lst []]).length:=aM hB.le (by simp);obtain⟨S2,e2,fr2⟩:=oa (b:=b) (g:=Ph (n+1) "sendings") (q:=ae (aa 0) (ae (aa 2) (ae (eV (ab al (vv 3) (vi 5))) (ae (aa 10) (ae (aa 9) (ae (aa 8) ba)))))) (L:=SL i st (.int (hd:Int)) step y v (.int (r:Int)) (qp (.tup R)) (qp (.tup Z)) (qp (.tup F)) (some (.ref S.length)) N (qp (.tup X)) (some (.ref (S.length+1))) none none) (S:=S++[.fz (.dct K V),.lst []]) (l:=[.ref i,.p (.int (hd:Int)),.p (.lst sn),.ref S.length,.p (.tup F),.p (.tup Z)]) (by simp [step,F0]) e1 fr1 hb1 an1;obtain⟨L',S',e3,hL',fr3,h5⟩:=h3 ⟨b,i,S,S.length+1,hB,by lia⟩ _ S2 [] ⟨N,none,none,rfl⟩ (frA.trans fr2) (fr2.hi _ _ (aM hB.le (by lia)) hk1) (by simp;lia);obtain⟨q11',q14',q15',rfl⟩:=hL';refine⟨.ref (S.length+1),S',?_,fr3,.inr ⟨S.length+1,by lia,rfl,.inl h5⟩⟩;rw [d7];show (match bP _ _ [some (.ref i),qp st,qi (hd:Int),qp step,qp y,none,none,none,none,none,none,none,none,none,none,none] S with | some (.rt d,_,S')=>some (d,S') | some (.nx,_,S')=>some (.p .non,S') | _=>none)=_;unfold bP;rw [ep];rw [aj (e:=SL i st (.int (hd:Int)) step y v (.int (r:Int)) (qp (.tup R)) (qp (.tup E)) (qp (.tup F)) (some (.ref S.length)) N none none none none) (b:=S++[.fz (.dct K V)]) (by simp [tv,v,step,ecb])];rw [aj (e:=SL i st (.int (hd:Int)) step y v (.int (r:Int)) (qp (.tup R)) (qp (.tup E)) (qp (.tup F)) (some (.ref S.length)) N none none none none) (b:=S++[.fz (.dct K V)]) (by simp [rV,dR])];rw [aj (e:=SL i st (.int (hd:Int)) step y v (.int (r:Int)) (qp (.tup R)) (qp (.tup Z)) (qp (.tup F)) (some (.ref S.length)) N none none none none) (b:=S++[.fz (.dct K V)]) (by simp [v,step,rT,ewb])];rw [aj (e:=SL i st (.int (hd:Int)) step y v (.int (r:Int)) (qp (.tup R)) (qp (.tup Z)) (qp (.tup F)) (some (.ref S.length)) N (qp (.tup X)) none none none) (b:=S++[.fz (.dct K V)]) (by simp [v,step,st,yo,J9,ej,er])];rw [aj (e:=SL i st (.int (hd:Int)) step y v (.int (r:Int)) (qp (.tup R)) (qp (.tup Z)) (qp (.tup F)) (some (.ref S.length)) N (qp (.tup X)) (some (.ref (S.length+1))) none none) (b:=S++[.fz (.dct K V),.lst []]) (by simp)];rw [aj (e:=SL i st (.int (hd:Int)) step y v (.int (r:Int)) (qp (.tup R)) (qp (.tup Z)) (qp (.tup F)) (some (.ref S.length)) q11' (qp (.tup X)) (some (.ref (S.length+1))) q14' q15') (b:=S') (by rw [bC,fW,e2];exact e3)];rfl
theorem G_ (J:Pln B.fams B.roads B.wishes) (s:Places B) (Y:12≤n) (T:(av B.fams)[hd]? = some f) (hS:StL B l u) :
  ∃ys:List P,ys.length≤6144/\(∀z ∈ ys,h_ B "step" (·=(hd:Int)) z)/\∀(b i:Nat) (S:aD),Bd B b i S->∃d F,Ph n "hand_ends" [.ref i,.p (.tup [.tup l,.tup u]),.p (.int (hd:Int))] S=some (d,F)/\Fr b S F/\lI S F d ys:=by
 obtain⟨n,rfl⟩:=fR (n:=n) (by first | assumption | lia);obtain⟨O,C,o,p,A,H,I,rfl⟩:=ib J.hf (bF T);have hhd:hd < l.length:=by rw [hS.hl];exact aW T
 have hhx:l[hd]? = some l[hd]:=cR hhd;obtain⟨_,_,_,_,_,_,hfe,r,cs,E,hxe,hr1,hcs,hwl,U⟩:=hS.hh hd _ _ T hhx;rw [hxe] at hhx;obtain⟨rfl,hce,rfl,rfl,rfl,rfl⟩:O=_/\C=_/\o=_/\p=_/\A=_/\H=_:=by simp only [P.tup.injEq,ir,P.str.injEq,P.int.injEq,P.lst.injEq,i9] at hfe;obtain⟨a,b,c,d,e,f⟩:=hfe;exact⟨a,Int.ofNat.inj b,c,d,e,f⟩
 subst hce;have ev:=wD (n:=n+1) (by lia) I hcs;have henv:=qE hcs;have hrg:o[r]? = some o[r]:=cR hr1;obtain⟨rn,hrn,hre⟩:=I.hro o[r] (gD _);rw [hre] at hrg;let v:Nat->Nat->Option D->Option D->Lc:=fun i r' q9 k=>[some (.ref i),qp (.tup [.tup l,.tup u]),qi (hd:Int),qp (eK O C o p A H),qi (r:Int),qp (.tup cs),qp (.tup E),qp (.dct (cG p) cs),some (.ref r'),q9,k]
 obtain⟨ys,h1,h2,h3⟩:=gy (q:=GC B) (g:=ag 9) (b:=cY (Ph (n+1)) (Ph n)) (Sp:=fun G S=>Fr G.b G.S0 S) (r:=fun G=>G.r) (Q:=h_ B "step" (·=(hd:Int))) (c:=768) (M:=10000) (e:=H) (p:=fun G L=>∃q9 k,L=v G.i G.r q9 k) (fun x hx=>by
  obtain⟨X,w,Z,V,m,W,t,hsx,hSt,rfl⟩:=I.hst x hx;obtain⟨w,hrm,rfl⟩:=I.hro w hSt.h1;obtain⟨hb,eh⟩:=zD (ny I.hce.1) henv hSt.wh (n:=n+1) (by lia);have R:∀(i r':Nat) (k:Option D) (S:aD),(fP (bV (aA dC (eV (ab al (vv 9) (vi 1))) (eV (ab al (ab al (vv 3) (vi 2)) (vv 4))))) (bT (eV (af (pureOf (Ph (n+1) "holds")) (v2 (ab al (vv 9) (vi 2)) (vv 7)))))) (v i r' (qp (eS X (.str w) Z V m W t)) k) S=some (decide (w=rn) && hb,S):=fun i r' k S=>by by_cases q:w=rn <;> simp [v,J9,bu hrg,q,eh]
  cases hc:(decide (w=rn) && hb) with
  | false=>refine⟨[],by simp,fun _ h=>(by cases h),fun G L S acc N fr j hM=>?_⟩;obtain⟨q9,k,rfl⟩:=N;refine⟨v G.i G.r (qp (eS X (.str w) Z V m W t)) k,v G.i G.r (qp (eS X (.str w) Z V m W t)) k,S,rfl,?_,⟨_,_,rfl⟩,fr,by simpa using j⟩;unfold cY;rw [iH,R,hc];rfl
  | true=>
   obtain⟨ls,hl1,hl2,el⟩:=AL J s (n:=n+1) (by lia) T hS.hr hSt.htk;obtain⟨ys,k1,k2,k3⟩:=gy (q:=GC B) (g:=ag 10) (b:=fE (Ph (n+1)) (Ph n)) (Sp:=fun G S=>Fr G.b G.S0 S) (r:=fun G=>G.r) (Q:=h_ B "step" (·=(hd:Int))) (c:=64) (M:=10000) (e:=ls) (p:=fun G L=>∃k,L=v G.i G.r (qp (eS X (.str w) Z V m W t)) k) (fun y hy=>by obtain⟨es,m1,m2,m3⟩:=F7 J s (n:=n+1) (by lia) I T hS hsx hSt (hl2 y hy);refine⟨es,m1,m2,fun G L S acc N fr j hM=>?_⟩;obtain⟨k,rfl⟩:=N;obtain⟨d,S1,e1,fr1,an⟩:=m3 G.b G.i S (G.bd.fr fr);obtain⟨S2,e2,K⟩:=oa (b:=G.b) (g:=Ph (n+1) "step_ends") (q:=ae (aa 0) (ae (aa 1) (ae (aa 2) (ae (aa 9) (ae (aa 10) ba))))) (L:=v G.i G.r (qp (eS X (.str w) Z V m W t)) (qp y)) (S:=S) (l:=[.ref G.i,.p (.tup [.tup l,.tup u]),.p (.int (hd:Int)),.p (eS X (.str w) Z V m W t),.p y]) rfl e1 fr1 (aM G.le fr.len) an;have hS2:=K.hi _ _ (aM G.le G.hr) j;exact⟨v G.i G.r (qp (eS X (.str w) Z V m W t)) (qp y),_,_,rfl,kH rfl j e2 hS2 (by lia),⟨_,rfl⟩,(fr.trans K).set G.le G.hr _,gF hS2⟩)
   refine⟨ys,by lia,k2,fun G L S acc N fr j hM=>?_⟩;obtain⟨q9,k,rfl⟩:=N;obtain⟨d,S1,e1,fr1,an⟩:=el G.b G.i S (G.bd.fr fr);obtain⟨S2,e2,K⟩:=oa (b:=G.b) (g:=Ph (n+1) "takeable") (q:=ae (aa 0) (ae (eV (ab al (vv 1) (vi 1))) (ae (aa 2) (ae (eV (ab al (vv 9) (vi 3))) ba)))) (L:=v G.i G.r (qp (eS X (.str w) Z V m W t)) k) (S:=S) (l:=[.ref G.i,.p (.tup u),.p (.int (hd:Int)),.p V]) (by simp [v,rT]) e1 fr1 (aM G.le fr.len) an;obtain⟨L',F,e3,⟨q10',rfl⟩,fr3,h5⟩:=k3 G _ S2 acc ⟨k,rfl⟩ (fr.trans K) (K.hi _ _ (aM G.le G.hr) j) (by lia);refine⟨v G.i G.r (qp (eS X (.str w) Z V m W t)) k,v G.i G.r (qp (eS X (.str w) Z V m W t)) q10',F,rfl,?_,⟨_,_,rfl⟩,fr3,h5⟩;unfold cY;rw [iH,R,hc];show b7 _ _ _ _ _=_;rw [bC,fW,e2];exact e3)
 have hsl:=I.sl;refine⟨ys,by lia,h2,fun b i S hB=>?_⟩;obtain⟨L',F,e3,⟨q9,k,rfl⟩,fr3,h5⟩:=h3 ⟨b,i,S,S.length,hB,Nat.le_refl _⟩ (v i S.length none none) (S++[.lst []]) [] ⟨none,none,rfl⟩ (Fr.app _ _ _) (gu _ _) (by simp;lia);refine⟨.ref S.length,F,?_,fr3,.inr ⟨S.length,Nat.le_refl _,rfl,.inl h5⟩⟩;have ef:=uO (n:=n+1) (by lia) hB T;obtain⟨jh,jp,jl,jm,mk,mv,h⟩:=hB;rw [fJ];show (match cF _ _ [some (.ref i),qp (.tup [.tup l,.tup u]),qi (hd:Int),none,none,none,none,none,none,none,none] S with | some (.rt d,_,F)=>some (d,F) | some (.nx,_,F)=>some (.p .non,F) | _=>none)=_;unfold cF;rw [aj (e:=[some (.ref i),qp (.tup [.tup l,.tup u]),qi (hd:Int),qp (eK O C o p A H),none,none,none,none,none,none,none]) (b:=S) (by rw [du,h.meth rfl (Ii _) Im (l:=[.p (.int (hd:Int))]) (by simp),ef];rfl)];rw [aj (e:=[some (.ref i),qp (.tup [.tup l,.tup u]),qi (hd:Int),qp (eK O C o p A H),qi (r:Int),qp (.tup cs),qp (.tup E),none,none,none,none]) (b:=S) (by simp [bu hhx])];rw [aj (e:=[some (.ref i),qp (.tup [.tup l,.tup u]),qi (hd:Int),qp (eK O C o p A H),qi (r:Int),qp (.tup cs),qp (.tup E),qp (.dct (cG p) cs),none,none,none]) (b:=S) (by simp [ev])];rw [aj (e:=v i S.length none none) (b:=S++[.lst []]) (by simp [v])];rw [aj (e:=v i S.length q9 k) (b:=F) (by rw [bC,fW,show (ab al (vv 3) (vi 5)) (v i S.length none none) (S++[.lst []])=some (.lst H,S++[.lst []]) by simp [v,LJ]];exact e3)];rfl
noncomputable def Bq:P->List P
 | .tup l=>l
 | _=>[]
noncomputable def kdOf:P->Str
 | .tup (_::_::.str k::_)=>k
 | _=>""
noncomputable def gW (l u:List P) (w:Str) (k:Nat) (a c:P) (h:List P) (s:Nat):P:=.tup [.tup [.str w,a,c,.int (s:Int)],.tup [.tup l,.tup (u.set k (.tup (sU w h s)))]]
noncomputable def Hh (l u:List P) (w:Str):P->List P
 | .tup [.int k,.tup [road,a,c]]=>if hR w road (Bq (u[k.toNat]?.getD .non))=true then (sd (kdOf road) (Bq (u[k.toNat]?.getD .non))).map (gW l u w k.toNat a c (Bq (u[k.toNat]?.getD .non))) else []
 | _=>[]
noncomputable def cH (B:BD) (l u:List P) (w:Str):List P:=(aR 0 B.PR).flatMap (Hh l u w)
theorem vj (h:i ∈ sd k x):i < x.length:=jZ.mp (fU.mp h).1
theorem vk:(sd k x).length≤x.length:=aM (iw ..) (by simp)
theorem y4 (f:h->e) (s:List h):s.flatMap (fun x=>[f x])=s.map f:=by
 induction s with
 | nil=>rfl
 | cons x r i=>rw [g7,i];rfl
theorem uN (J:Pln B.fams B.roads B.wishes) (S:StL B l u) (w:Str) (f:B.PR[k]? = some x):∃road s,∃a c:Nat,∃d:Str,road ∈ B.roads/\x=pr road a c/\iW s/\u[k]? = some (.tup s)/\k < u.length/\e_ road/\kdOf road=d/\al road (.int 2)=some (.str d)/\Hh l u w (.tup [.int (k:Int),x])=if hR w road s=true then (sd d s).map (gW l u w k (.int (a:Int)) (.int (c:Int)) s) else []:=by
 obtain⟨road,o,a,c,rfl⟩:=rQ (bF f);obtain⟨e,s,n,r⟩:=S.hr.at f;have h:=J.hr road o;refine⟨road,s,a,c,kdOf road,o,rfl,n,r,e,h,rfl,?_,?_⟩
 .obtain⟨t,p,d,c,b,m,_,_,_,_,_,rfl⟩:=h;simp [kdOf]
 .simp [Hh,pr,r,Bq]
theorem fN {B:BD} (J:Pln B.fams B.roads B.wishes) {l u:List P} (S:StL B l u) {w:Str} (hw:w="lose"\/w="double") {z:P} (h:z ∈ cH B l u w):∃(k:Nat) (road:P) (s:List P) (a c m:Nat),B.PR[k]? = some (pr road a c)/\u[k]? = some (.tup s)/\z=gW l u w k (.int (a:Int)) (.int (c:Int)) s m/\h_ B w (fun _=>True) z:=by
 obtain⟨v,H,h⟩:=jc.mp h;obtain⟨k,g,e⟩:=jf.mp H;obtain⟨x,t,rfl⟩:=dg (s:=B.PR) (i:=k) (v:=v) (by rw [cR g,e]);obtain⟨road,s,a,c,F,y,rfl,b,f,j,r,rfl,_,I⟩:=uN J S w t;rw [I] at h;split at h
 .rename_i T;obtain⟨m,p,rfl⟩:=bA.mp h;have h:=(Cw (n:=3) (by lia) hw b (fun q=>(Cq (n:=2) (by lia) hw r s).1 q T) (vj p)).1;have o:PyData.strOk w=true:=by rcases hw with rfl | rfl <;> simp
  refine⟨k,road,s,a,c,m,t,f,rfl,_,_,rfl,⟨_,_,_,rfl,trivial,.inr ⟨_,rfl⟩,fun d hd=>?_⟩,l,_,rfl,S.hl,S.hh,S.hr.set k h⟩;simp only [bj,dU,dS] at hd;rcases hd with rfl | rfl | rfl | rfl <;> simp [o]
 .cases h
theorem Cu {B:BD} (J:Pln B.fams B.roads B.wishes) {n:Nat} (Y:5≤n) {w:Str} (hw:w="lose"\/w="double") {l u:List P} (hS:StL B l u) :
  (cH B l u w).length≤6144/\∀(b i:Nat) (S:aD),Bd B b i S->∃d H,Ph n "flaw_ends" [.ref i,.p (.tup [.tup l,.tup u]),.p (.str w)] S=some (d,H)/\Fr b S H/\lI S H d (cH B l u w):=by
 obtain⟨n,rfl⟩:=fR (n:=n) (by first | assumption | lia);have how:PyData.strOk w=true:=by rcases hw with rfl | rfl <;> simp
 have hpl:=lH J;have hrl:=hS.hr.1;let m:Nat->Nat->Option D->Option D->Option D->Option D->Option D->Option D->Option D->Option D->Lc:=fun i V T U F K A o s e=>[some (.ref i),qp (.tup [.tup l,.tup u]),qs w,some (.ref V),T,U,F,K,A,o,s,e]
 obtain⟨h1,h3⟩:=eJ (i:=GC B) (f:=Hh l u w) (g:=aI [ag 4,ag 5]) (b:=dO (Ph (n+1)) (Ph n)) (Sp:=fun G S=>Fr G.b G.S0 S) (r:=fun G=>G.r) (c:=3) (M:=10000) (s:=aR 0 B.PR) (p:=fun G L=>∃T U F K A o s e,L=m G.i G.r T U F K A o s e) (fun x hx=>by
  obtain⟨k,hk,hxe⟩:=jf.mp hx;obtain⟨p,hp,rfl⟩:=dg (s:=B.PR) (i:=k) (v:=x) (by rw [cR hk,hxe]);obtain⟨road,t,a,c,R,hro,rfl,O,hkr,hkl,Q,_,hkd,I⟩:=uN J hS w hp;obtain⟨Z,ef⟩:=Cq (n:=n+1) (by lia) hw Q t;have eu:=B7 (n:=n+1) (by lia) R O;have hul:=vk (k:=R) (x:=t);rw [I];clear I;generalize hR w road t=fb at Z ef;have hls3:=O.1;have pre:∀(i V:Nat) (F K A o s e:Option D) (S:aD) (g:ES),ac (sg (aI [ag 6,ag 7,ag 8]) (vv 5)) (ac (ak 9 (eV (ab al (ab al (vv 1) (vi 1)) (vv 4)))) g) (m i V (qi (k:Int)) (qp (pr road a c)) F K A o s e) S=g (m i V (qi (k:Int)) (qp (pr road a c)) (qp road) (qi (a:Int)) (qi (c:Int)) (qp (.tup t)) s e) S:=fun i V F K A o s e S g=>by
   rw [aj (e:=m i V (qi (k:Int)) (qp (pr road a c)) (qp road) (qi (a:Int)) (qi (c:Int)) o s e) (b:=S) (by simp [m,pr]),
    aj (e:=m i V (qi (k:Int)) (qp (pr road a c)) (qp road) (qi (a:Int)) (qi (c:Int)) (qp (.tup t)) s e) (b:=S) (by simp [m,bu hkr])]
  cases fb with
  | false=>refine⟨by simp,fun G L S E C W j hM=>?_⟩;obtain⟨T,U,F,K,A,o,s,e,rfl⟩:=C;refine⟨m G.i G.r (qi (k:Int)) (qp (pr road a c)) F K A o s e,m G.i G.r (qi (k:Int)) (qp (pr road a c)) (qp road) (qi (a:Int)) (qi (c:Int)) (qp (.tup t)) s e,S,rfl,?_,⟨_,_,_,_,_,_,_,_,rfl⟩,W,by simpa using j⟩;unfold dO;rw [pre];simp [m,ef]
  | true=>
   obtain⟨k1,k3⟩:=eJ (i:=GC B) (f:=fun v=>match v with | .int z=>[gW l u w k (.int (a:Int)) (.int (c:Int)) t z.toNat] | _=>[]) (g:=ag 10) (b:=fF (Ph (n+1)) (Ph n)) (Sp:=fun G S=>Fr G.b G.S0 S) (r:=fun G=>G.r) (c:=1) (M:=10000) (s:=bG (sd R t)) (p:=fun G L=>∃s e,L=m G.i G.r (qi (k:Int)) (qp (pr road a c)) (qp road) (qi (a:Int)) (qi (c:Int)) (qp (.tup t)) s e) (fun y hy=>by obtain⟨sp,hsp',rfl⟩:=bA.mp hy;have hsp:=vj hsp';obtain⟨hz,ez⟩:=Cw (n:=n+1) (by lia) hw O (fun q=>Z q rfl) hsp;have er:=np (n:=n+1) (by lia) (xs:=u) (k:=k) hkl (by lia) (.tup (sU w t sp));refine⟨by simp,fun G L S E C W j hM=>?_⟩;simp only [Int.toNat_natCast,gW];generalize sU w t sp=zs at hz ez er;obtain⟨s,e,rfl⟩:=C;refine⟨m G.i G.r (qi (k:Int)) (qp (pr road a c)) (qp road) (qi (a:Int)) (qi (c:Int)) (qp (.tup t)) (qi (sp:Int)) e,m G.i G.r (qi (k:Int)) (qp (pr road a c)) (qp road) (qi (a:Int)) (qi (c:Int)) (qp (.tup t)) (qi (sp:Int)) (qp (.tup (u.set k (.tup zs)))),_,rfl,?_,⟨_,_,rfl⟩,W.set G.le G.hr _,gF j⟩;unfold fF;refine (aj (e:=m G.i G.r (qi (k:Int)) (qp (pr road a c)) (qp road) (qi (a:Int)) (qi (c:Int)) (qp (.tup t)) (qi (sp:Int)) (qp (.tup (u.set k (.tup zs))))) (b:=S) (by simp [m,ez,er])).trans (iU rfl j ?_ j (by lia));simp [m])
   have hfm:(bG (sd R t)).flatMap (fun v=>match v with | .int z=>[gW l u w k (.int (a:Int)) (.int (c:Int)) t z.toNat] | _=>[])=(sd R t).map (gW l u w k (.int (a:Int)) (.int (c:Int)) t):=by unfold bG;rw [pY];exact y4 _ _
   have hnl:(bG (sd R t)).length=(sd R t).length:=by simp [bG]
   rw [hfm] at k1 k3;rw [hnl] at k1 k3;rw [if_pos rfl];refine⟨by lia,fun G L S E C W j hM=>?_⟩;obtain⟨T,U,F,K,A,o,s,e,rfl⟩:=C;obtain⟨L',H,e3,⟨q10',q11',rfl⟩,N,h5⟩:=k3 G _ S E ⟨s,e,rfl⟩ W j (by lia);refine⟨m G.i G.r (qi (k:Int)) (qp (pr road a c)) F K A o s e,m G.i G.r (qi (k:Int)) (qp (pr road a c)) (qp road) (qi (a:Int)) (qi (c:Int)) (qp (.tup t)) q10' q11',H,rfl,?_,⟨_,_,_,_,_,_,_,_,rfl⟩,N,h5⟩;unfold dO;rw [pre];simp only [m] at e3;simp [m,ef,hkd,eu,e3])
 rw [cf] at h1 h3;refine⟨by unfold cH;lia,fun b i S hB=>?_⟩;have X:=Fr.app b S [.lst []];obtain⟨jh,jp,jl,jm,mk,mv,h⟩:=hB.fr X;have frB:=X.trans (Fr.frz h.bp h.pr);have hb:=hB.le;have hjp:=h.bp;obtain⟨L',H,e3,⟨T,U,F,K,A,o,s,e,rfl⟩,N,h5⟩:=h3 ⟨b,i,S,S.length,hB,Nat.le_refl _⟩ (m i S.length none none none none none none none none) ((S++[SO.lst []]).set jp (.fz (.lst B.PR))) [] ⟨none,none,none,none,none,none,none,none,rfl⟩ frB (by rw [a7 (by lia)];exact gu _ _) (by simp;lia);refine⟨.ref S.length,H,?_,N,.inr ⟨S.length,Nat.le_refl _,rfl,.inl h5⟩⟩;rw [oF];show (match hV _ _ [some (.ref i),qp (.tup [.tup l,.tup u]),qs w,none,none,none,none,none,none,none,none,none] S with | some (.rt d,_,H)=>some (d,H) | some (.nx,_,H)=>some (.p .non,H) | _=>none)=_;unfold hV;rw [aj (e:=m i S.length none none none none none none none none) (b:=S++[.lst []]) (by simp [m])];rw [aj (e:=m i S.length T U F K A o s e) (b:=H) (by rw [bC,mL,lJ,h.pairs rfl,aw,h.pr.frz];exact e3)];rfl
noncomputable def HL (B:BD) (l u:List P) (x:Nat->List P):Prop:=∀k,k < (av B.fams).length->(x k).length≤6144/\(∀z ∈ x k,h_ B "step" (·=(k:Int)) z)/\∀m,12≤m->∀(b i:Nat) (S:aD),Bd B b i S->∃d h,Ph m "hand_ends" [.ref i,.p (.tup [.tup l,.tup u]),.p (.int (k:Int))] S=some (d,h)/\Fr b S h/\lI S h d (x k)
noncomputable def jQ (B:BD) (h:Nat->List P):List P:=(List.range (av B.fams).length).flatMap h
theorem wa (J:Pln B.fams B.roads B.wishes) (Y:14≤n) (hS:StL B l u) (hH:HL B l u Q) :
  (jQ B Q++cH B l u "lose"++cH B l u "double").length≤40000/\∀(b i:Nat) (S:aD),Bd B b i S->∃d w,Ph n "ends_on" [.ref i,.p (.tup [.tup l,.tup u])] S=some (d,w)/\Fr b S w/\lI S w d (jQ B Q++cH B l u "lose"++cH B l u "double"):=by
 obtain⟨n,rfl⟩:=fR (n:=n) (by first | assumption | lia);have h4:=gx J;have hhl:=lq (f:=B.fams);obtain⟨la1,o⟩:=Cu J (n:=n+1) (by lia) (.inl rfl) hS;obtain⟨U,z⟩:=Cu J (n:=n+1) (by lia) (.inr rfl) hS;generalize cH B l u "lose"=la at la1 o;generalize cH B l u "double"=da at U z;let e:Nat->Nat->Option D->Lc:=fun i r' q=>[some (.ref i),qp (.tup [.tup l,.tup u]),some (.ref r'),q]
 let f:P->List P:=fun v=>match v with | .int x=>Q x.toNat | _=>[]
 obtain⟨h1,O⟩:=eJ (i:=GC B) (f:=f) (g:=ag 3) (b:=jA (Ph (n+1)) (Ph n)) (Sp:=fun G S=>Fr G.b G.S0 S) (r:=fun G=>G.r) (c:=6144) (M:=100000) (s:=intsFrom 0 (homes B.fams).length) (p:=fun G L=>∃q,L=e G.i G.r q) (fun x hx=>by obtain⟨k,rfl,hk⟩:=fM hx;simp only [c8];obtain⟨m1,m2,m3⟩:=hH k (by lia);refine⟨m1,fun G L S acc hLp X F hM=>?_⟩;obtain⟨q,rfl⟩:=hLp;obtain⟨d,N,V,a,an⟩:=m3 (n+1) (by lia) G.b G.i S (G.bd.fr X);obtain⟨S2,W,s⟩:=oa (b:=G.b) (g:=Ph (n+1) "hand_ends") (q:=ae (aa 0) (ae (aa 1) (ae (aa 3) ba))) (L:=e G.i G.r (qi (k:Int))) (S:=S) (l:=[.ref G.i,.p (.tup [.tup l,.tup u]),.p (.int (k:Int))]) rfl V a (aM G.le X.len) an;have K:=s.hi _ _ (aM G.le G.hr) F;exact⟨e G.i G.r (qi (k:Int)),_,_,rfl,kH rfl F W K (by lia),⟨_,rfl⟩,(X.trans s).set G.le G.hr _,gF K⟩)
 rw [bH] at h1 O;have hys:(intsFrom 0 (homes B.fams).length).flatMap f=jQ B Q:=by rw [hhl,zy];unfold bG jQ;rw [pY];congr 1
 rw [hys] at h1 O;generalize jQ B Q=ys at h1 O;refine⟨by rw [List.length_append,List.length_append];lia,fun b i S H=>?_⟩
 .have A:=Fr.app b S [.lst []];have y:=H.le;obtain⟨L',N,V,⟨q,rfl⟩,a,C⟩:=O ⟨b,i,S,S.length,H,Nat.le_refl _⟩ (e i S.length none) (S++[.lst []]) [] ⟨none,rfl⟩ A (gu _ _) (by simp;lia);obtain⟨d2,T2,f2,s,R⟩:=o b i N (H.fr a);obtain⟨S2,W,m⟩:=oa (b:=b) (g:=Ph (n+1) "flaw_ends") (q:=ae (aa 0) (ae (aa 1) (ae (eV (vt "lose")) ba))) (L:=e i S.length q) (S:=N) (l:=[.ref i,.p (.tup [.tup l,.tup u]),.p (.str "lose")]) rfl f2 s (aM y a.len) R;have E:=m.hi _ _ y C;have j:Fr b S (S2.set S.length (.lst (([]++ys++la).map .p))):=(a.trans m).set y (Nat.le_refl _) _;have p:=gF (a:=.lst (([]++ys++la).map .p)) E;obtain⟨d3,T3,f3,Z,T⟩:=z b i _ (H.fr j);obtain⟨S3,e3,t⟩:=oa (b:=b) (g:=Ph (n+1) "flaw_ends") (q:=ae (aa 0) (ae (aa 1) (ae (eV (vt "double")) ba))) (L:=e i S.length q) (l:=[.ref i,.p (.tup [.tup l,.tup u]),.p (.str "double")]) rfl f3 Z (aM y j.len) T;have I:=t.hi _ _ y p;refine⟨.ref S.length,S3.set S.length (.lst (([]++ys++la++da).map .p)),?_,(j.trans t).set y (Nat.le_refl _) _,.inr ⟨S.length,Nat.le_refl _,rfl,.inl (by rw [gF I];simp)⟩⟩;obtain⟨jh,jp,jl,jm,mk,mv,h⟩:=H.fr A;have hq:(homes B.fams).length < 1000000:=by lia
  rw [sW];show (match jB _ _ [some (.ref i),qp (.tup [.tup l,.tup u]),none,none] S with | some (.rt d,_,w)=>some (d,w) | some (.nx,_,w)=>some (.p .non,w) | _=>none)=_;unfold jB;rw [aj (e:=e i S.length none) (b:=S++[.lst []]) (by simp [e])];rw [aj (e:=e i S.length q) (b:=N) (by rw [bC,show hJ (dB (dF (aT Att) (aa 0) "homes")) (e i S.length none) (S++[.lst []])=some (intsFrom 0 (homes B.fams).length,S++[.lst []]) by rw [vV,AF,h.homes rfl];simp [h.ho.len,hq]];exact V)]
  rw [aj (kH rfl C W E (by simp;lia))];rw [aj (kH rfl p e3 I (by simp;lia))];rfl
end My
namespace My
open PySem L2 Ev
theorem jF [DecidableEq w] (x:w) (y:D):∀(s:List w) (l:List D),s.Nodup->s.length=l.length->(cI x y s l).1.Nodup/\(cI x y s l).1.length=(cI x y s l).2.length/\(cI x y s l).1.length≤s.length+1/\(∀k ∈ (cI x y s l).1,k=x\/k ∈ s)/\∀k,bW k (cI x y s l).1 (cI x y s l).2=if x=k then some y else bW k s l
 | [],[],_,_=>⟨by simp [cI],rfl,by simp [cI],fun k h=>.inl (by simpa [cI] using h),fun k=>by by_cases q:x=k <;> simp [cI,bW,q]⟩
 | [],_::_,_,h=>by simp at h
 | _::_,[],_,h=>by simp at h
 | a::s,v::l,f,m=>by
  obtain⟨c,f⟩:=List.nodup_cons.mp f;by_cases q:a=x
  .have e:cI x y (a::s) (v::l)=(a::s,y::l):=by simp [cI,q]
   rw [e];refine⟨List.nodup_cons.mpr ⟨c,f⟩,by simpa using m,by simp,fun k h=>.inr h,fun k=>?_⟩;subst q;by_cases n:a=k <;> simp [bW,n]
  .obtain⟨t,p,u,b,d⟩:=jF x y s l f (by simpa using m);have e:cI x y (a::s) (v::l)=(a::(cI x y s l).1,v::(cI x y s l).2):=by simp [cI,q]
   rw [e];refine⟨List.nodup_cons.mpr ⟨fun z=>?_,t⟩,by simp [p],by simp;lia,fun k h=>?_,fun k=>?_⟩
   .rcases b a z with z | z
    .exact q z
    .exact c z
   .rcases bj.mp h with rfl | h
    .exact .inr List.mem_cons_self
    .rcases b k h with h | h
     .exact .inl h
     .exact .inr (aY _ h)
   .show (if a=k then some v else bW k (cI x y s l).1 (cI x y s l).2)=_;by_cases n:a=k
    .subst n;have:¬x=a:=fun z=>q z.symm
     simp [bW,this]
    .rw [if_neg n,d];by_cases r:x=k
     .simp [r]
     .simp [r,bW,n]
noncomputable def ov:P->List bz
 | .tup [_,.int a,.int b]=>[.inl a,.inl b]
 | _=>[]
noncomputable abbrev KV:=List (List bz)×List D
noncomputable def putAll:Nat->List P->KV->KV
 | _,[],s=>s
 | k,p::r,s=>putAll (k+1) r (cI (ov p) (.p (.int (k:Int))) s.1 s.2)
structure KVok (s:KV):Prop where
 nd:s.1.Nodup
 ln:s.1.length=s.2.length
theorem KVok.put (h:KVok s) (k:List bz) (y:D):KVok (cI k y s.1 s.2):=by obtain⟨x,a,_⟩:=jF k y s.1 s.2 h.nd h.ln;exact⟨x,a⟩
theorem Ce:∀(ps:List P) (k:Nat) (s:KV),KVok s->∀y d,bW y (putAll k ps s).1 (putAll k ps s).2=some d->bW y s.1 s.2=some d\/∃(j:Nat) (p:P),ps[j]? = some p/\d=.p (.int ((k+j:Nat):Int))
 | [],k,s,h,y,d,e=>.inl e
 | p::r,k,s,h,y,d,e=>by
  rcases Ce r (k+1) _ (h.put (ov p) (.p (.int (k:Int)))) y d e with e | ⟨j,n,x,a⟩
  .rw [(jF (ov p) (.p (.int (k:Int))) s.1 s.2 h.nd h.ln).2.2.2.2] at e;split at e
   .cases e;exact .inr ⟨0,p,rfl,rfl⟩
   .exact .inl e
  .exact .inr ⟨j+1,n,by simpa using x,by rw [a,show k+1+j=k+(j+1) by lia]⟩
theorem yZ:∀(ps:List P) (k:Nat) (s:KV),KVok s->∀y,((∃d,bW y s.1 s.2=some d)\/∃p ∈ ps,ov p=y)->∃d,bW y (putAll k ps s).1 (putAll k ps s).2=some d
 | [],k,s,h,y,q=>by
  rcases q with q | ⟨_,z,_⟩
  .exact q
  .cases z
 | p::r,k,s,h,y,q=>by
  refine yZ r (k+1) _ (h.put (ov p) (.p (.int (k:Int)))) y ?_;have e:=(jF (ov p) (.p (.int (k:Int))) s.1 s.2 h.nd h.ln).2.2.2.2 y;by_cases w:ov p=y
  .exact .inl ⟨_,by rw [e,if_pos w]⟩
  .rcases q with ⟨d,q⟩ | ⟨x,z,q⟩
   .exact .inl ⟨d,by rw [e,if_neg w];exact q⟩
   .rcases bj.mp z with rfl | z
    .exact absurd q w
    .exact .inr ⟨x,z,q⟩
noncomputable def w5 (m r w:List P):BD:=⟨m,r,w,(putAll 0 (a6 (ar m) r) ([],[])).1,(putAll 0 (a6 (ar m) r) ([],[])).2⟩
theorem JY:KVok ([],[]):=⟨by simp,rfl⟩
theorem w4 (m o w:List P):Places (w5 m o w) where
 get:=fun r a b h=>yZ _ 0 _ JY _ (.inr ⟨_,h,rfl⟩)
 ok:=fun x y d h=>by
  rcases Ce _ 0 _ JY _ d h with e | ⟨j,p,s,n⟩
  .cases e
  .obtain⟨r,k,a,b,rfl⟩:=rQ (B:=w5 m o w) (bF s);exact⟨j,r,a,b,k,by rw [n,eF],s⟩
@[simp] theorem L_:¬("families":Str)="homes"/\¬("families":Str)="pairs"/\¬("families":Str)="places"/\¬("families":Str)="members"/\¬("homes":Str)="pairs"/\¬("homes":Str)="places"/\¬("homes":Str)="members"/\¬("pairs":Str)="places"/\¬("pairs":Str)="members"/\¬("places":Str)="members":=by decide +kernel
theorem CB {ψ ι:Str->GF} (l:P) (a b c:D) (o u:SO):∀(ps:List P) (k:Nat) (s:KV),KVok s->s.1.length+ps.length≤900000->(∀p ∈ ps,∃r x y,p=.tup [r,.int x,.int y])->∀f m:Option D,∃q n,
  aO (aI [ag 2,ag 3]) (fj ψ ι) (aR (k:Int) ps) [some (.ref 0),qp l,f,m,none] [.ins "Board" ["families","homes","pairs","places"] [a,b,c,.ref 3],o,u,.dtt s.1 s.2]=some (.nx,[some (.ref 0),qp l,q,n,none],[.ins "Board" ["families","homes","pairs","places"] [a,b,c,.ref 3],o,u,.dtt (putAll k ps s).1 (putAll k ps s).2])
 | [],k,s,_,_,_,f,m=>⟨f,m,rfl⟩
 | p::r,k,s,h,i,g,f,m=>by
  simp only [bc] at i;obtain⟨d,x,y,rfl⟩:=g p List.mem_cons_self;have j:=(jF (ov (.tup [d,.int x,.int y])) (.p (.int (k:Int))) s.1 s.2 h.nd h.ln).2.2.1;obtain⟨q,n,e⟩:=CB (ψ:=ψ) (ι:=ι) l a b c o u r (k+1) _ (h.put (ov (.tup [d,.int x,.int y])) (.p (.int (k:Int)))) (by lia) (fun p v=>g p (aY _ v)) (qi (k:Int)) (qp (.tup [d,.int x,.int y]));refine⟨q,n,?_⟩;unfold aR putAll;rw [ij] at e;refine (bf (s:=[some (.ref 0),qp l,qi (k:Int),qp (.tup [d,.int x,.int y]),none]) rfl ?_).trans e;have t:=h.nd;have w:s.1.length≤1000000:=by lia
  simp [fj,jL,gI,iI,cn,cd,t,w,ov]
theorem vY:∀{k:List bz}{l:List D},bW r k l=bM r k l
 | [],_=>by cases ‹List D› <;> rfl
 | _::_,[]=>rfl
 | h::k,v::l=>by
  show (if h=r then some v else bW r k l)=if h=r then some v else bM r k l
  rw [vY]
theorem BG {n:Nat} (w:2≤n) {m:List P}{S:aD}{a e s:D} (x:S[0]? = some (.ins "Board" fields [.p (.lst m),.ref 1,a,e,s])) (q:S[1]? = some (.lst ((homes m).map .p))) {k:Nat}{f:P} (v:(av m)[k]? = some f):Ph n "Board.family_of" [.ref 0,.p (.int (k:Int))] S=some (.p f,S):=by
 obtain⟨n,rfl⟩:=fR (n:=n) (by first | assumption | lia);obtain⟨p,b,c⟩:=pc v;have r:tX (dF (aT Att) (aa 0) "homes") (vv 1) [some (.ref 0),qi (k:Int)] S=some (.p (.int (p:Int)),S):=jC.ix (j:=1) (.inl q) (by simp [x,jL,Br]) rfl (bu b);have t:dF (aT Att) (aa 0) "families" [some (.ref 0),qi (k:Int)] S=some (.p (.lst m),S):=by simp [x,jL,Br]
 rw [b9];show (match aK _ [some (.ref 0),qi (k:Int)] S with | some (.rt d,_,h)=>some (d,h) | some (.nx,_,h)=>some (.p .non,h) | _=>none)=_;rw [qr,jw,t,aw,lJ,r];simp [bu c]
noncomputable def gZ (N:LS) (t:Nat) (s:Str):List Nat:=(List.range t).filter fun i=>decide (N[i]? = some s)
theorem iO (N:LS) (t:Nat) (s:Str):gZ N (t+1) s=if N[t]? = some s then gZ N t s++[t] else gZ N t s:=by
 unfold gZ;rw [List.range_succ,List.filter_append];by_cases h:N[t]? = some s
 .rw [if_pos h,t4 (by simpa using h)];rfl
 .rw [if_neg h,t3 (by simpa using h)];simp
theorem uX (a:t≤N.length) (h:s ∉ N.take t):gZ N t s=[]:=by
 unfold gZ;refine List.filter_eq_nil_iff.mpr fun i x q=>h ?_
 have x:i < t:=jZ.mp x;have e:=of_decide_eq_true q;rw [<- iz x] at e;exact bF e
structure MI (fams:List P) (o2 o3:SO) (t:Nat) (mk:List bz) (mv:List D) (S:aD):Prop where
 h0:S[0]? = some (.ins "Board" fields [.p (.lst fams),.ref 1,.ref 2,.ref 3,.ref 4])
 h1:S[1]? = some (.lst ((homes fams).map .p))
 h2:S[2]? = some o2
 h3:S[3]? = some o3
 h4:S[4]? = some (.dct mk mv)
 nd:mk.Nodup
 ln:mk.length=mv.length
 le:mk.length≤t
 yes:∀s ∈ (ar fams).take t,∃j,bW (.inr s) mk mv=some (.ref j)/\5≤j/\S[j]? = some (.lst ((bG (gZ (ar fams) t s)).map .p))
 no:∀s,s ∉ (ar fams).take t->bW (.inr s) mk mv=none
 inj:∀s s' j,bW (.inr s) mk mv=some (.ref j)->bW (.inr s') mk mv=some (.ref j)->s=s'
variable {m:List P}{n:Nat}
theorem Bn (h:MI m o2 o3 t mk r S) (hn:2≤n) (ht:t≤100) (L:∀f ∈ m,d6 rs f) (J:(av m)[t]? = some f) (l:P) (v d:Option D) :
  ∃R U X,MI m o2 o3 (t+1) R U X/\b6 (Ph n) (Ph (n-1)) [some (.ref 0),qp l,v,d,qi (t:Int)] S=some (.nx,[some (.ref 0),qp l,v,d,qi (t:Int)],X):=by
 have N:(ar m)[t]? = some (a8 f):=by unfold ar;rw [List.getElem?_map,J];rfl
 have htl:t < (ar m).length:=aW N;have ef:=BG hn h.h0 h.h1 J;have em:dA (mT Tb (Ph n)) (aa 0) "family_of" (ae (aa 4) ba) [some (.ref 0),qp l,v,d,qi (t:Int)] S=some (.p f,S):=by rw [ie];show aF (some (D.ref 0,S)) _=_;rw [aw];simp only [h.h0,Ii,Im];exact ef
 have Z:(ab al (vE (dA (mT Tb (Ph n)) (aa 0) "family_of" (ae (aa 4) ba))) (vi 0)) [some (.ref 0),qp l,v,d,qi (t:Int)] S=some (.str (a8 f),S):=by obtain⟨nm,c,V,I,whos,W,_,rfl⟩:=ib L (bF J);rw [CV,lJ,em];simp [a8]
 have eo:dF (aT Att) (aa 0) "members" [some (.ref 0),qp l,v,d,qi (t:Int)] S=some (.ref 4,S):=by simp [h.h0,jL,Br]
 have l5:4 < S.length:=aW h.h4;have E:(ar m).take (t+1)=(ar m).take t++[a8 f]:=by rw [List.take_add_one,N];rfl
 have p:∀k,k < S.length->(S++[SO.lst []])[k]? = S[k]?:=fun k B=>List.getElem?_append_left B;have u:jI (.ref 4) S=some (4,mk,r):=by simp [jI,h.h4]
 have o:jI (.ref 4) (S++[.lst []])=some (4,mk,r):=by simp [jI,p 4 l5,h.h4]
 have A:(mk.Nodup/\few mk=true):=⟨h.nd,by rw [nP];have:=h.le;lia⟩;by_cases Q:a8 f ∈ (ar m).take t
 .obtain⟨j,F,hj,Y⟩:=h.yes _ Q;have M:j < S.length:=aW Y;have K:(S++[SO.lst []])[j]? = some (.lst ((bG (gZ (ar m) t (a8 f))).map .p)):=by rw [p j M];exact Y
  have C:(bG (gZ (ar m) t (a8 f))).length≤1000000:=by have:=iw (fun i=>decide ((ar m)[i]? = some (a8 f))) (List.range t);simp [bG,gZ];simp at this;lia
  refine⟨mk,r,(S++[SO.lst []]).set j (.lst ((bG (gZ (ar m) (t+1) (a8 f))).map .p)),?_,?_⟩
  .have e:∀k,k < S.length->k≠j->((S++[SO.lst []]).set j (.lst ((bG (gZ (ar m) (t+1) (a8 f))).map .p)))[k]? = S[k]?:=fun k B q=>by rw [a7 (fun z=>q z.symm),p k B]
   refine⟨by rw [e 0 (by lia) (by lia)];exact h.h0,by rw [e 1 (by lia) (by lia)];exact h.h1,by rw [e 2 (by lia) (by lia)];exact h.h2,by rw [e 3 (by lia) (by lia)];exact h.h3,by rw [e 4 (by lia) (by lia)];exact h.h4,h.nd,h.ln,by have:=h.le;lia,fun s x=>?_,fun s x=>?_,h.inj⟩
   .by_cases q:s=a8 f
    .subst q;exact⟨j,F,hj,by rw [dP (by simp;lia)]⟩
    .have g:s ∈ (ar m).take t:=by
      rw [E] at x;rcases cC.mp x with z | z
      .exact z
      .exact absurd (je.mp z) q
     obtain⟨y,a,b,H⟩:=h.yes s g;have O:y≠j:=fun z=>q (h.inj s (a8 f) j (z ▸ a) F);refine⟨y,a,b,?_⟩;rw [e y (aW H) O,iO,if_neg fun z=>q (by rw [N] at z;cases z;rfl)];exact H
   .exact h.no s fun z=>x (by rw [E];exact j5 _ z)
  .unfold b6;rw [ky,j_,nT,eo,aw];simp only [u,Z,aw];rw [show cu aN [some (D.ref 0),qp l,v,d,qi (t:Int)] S=some (.ref S.length,S++[.lst []]) by simp];simp only [aw,o,cd,if_pos A,F,c_,K];rw [show aa 4 [some (D.ref 0),qp l,v,d,qi (t:Int)] (S++[SO.lst []])=some (.p (.int (t:Int)),S++[.lst []]) from rfl,aw];simp only [K];rw [if_pos (by rw [nP,b8];exact C),iO,if_pos N];simp [bG]
 .have F:=h.no _ Q;obtain⟨g1,g2,g3,g4,G⟩:=jF (.inr (a8 f):bz) (.ref S.length) mk r h.nd h.ln;have c0:gZ (ar m) t (a8 f)=[]:=uX (by lia) Q;refine⟨(cI (Sum.inr (a8 f):bz) (.ref S.length) mk r).1,(cI (Sum.inr (a8 f):bz) (.ref S.length) mk r).2,((S++[SO.lst []]).set 4 (SO.dct (cI (Sum.inr (a8 f):bz) (.ref S.length) mk r).1 (cI (Sum.inr (a8 f):bz) (.ref S.length) mk r).2)).set S.length (.lst [.p (.int (t:Int))]),?_,?_⟩
  .have e:∀k,k < S.length->k≠4->(((S++[SO.lst []]).set 4 (.dct (cI (.inr (a8 f)) (.ref S.length) mk r).1 (cI (.inr (a8 f)) (.ref S.length) mk r).2)).set S.length (.lst [.p (.int (t:Int))]))[k]? = S[k]?:=fun k B q=>by rw [a7 (by lia),a7 (fun z=>q z.symm),p k B]
   refine⟨by rw [e 0 (by lia) (by lia)];exact h.h0,by rw [e 1 (by lia) (by lia)];exact h.h1,by rw [e 2 (by lia) (by lia)];exact h.h2,by rw [e 3 (by lia) (by lia)];exact h.h3,by rw [a7 (by lia),dP (by simp;lia)],g1,g2,by have:=h.le;lia,fun s x=>?_,fun s x=>?_,fun s s' j a b=>?_⟩
   .by_cases q:s=a8 f
    .subst q;refine⟨S.length,by rw [G,if_pos rfl],by lia,?_⟩;rw [dP (by simp),iO,if_pos N,c0];rfl
    .have g:s ∈ (ar m).take t:=by
      rw [E] at x;rcases cC.mp x with z | z
      .exact z
      .exact absurd (je.mp z) q
     obtain⟨y,a,b,H⟩:=h.yes s g;refine⟨y,by rw [G,if_neg fun z=>q (i_ z).symm];exact a,b,?_⟩;rw [e y (aW H) (by lia),iO,if_neg fun z=>q (by rw [N] at z;cases z;rfl)];exact H
   .rw [G,if_neg fun z=>x (by rw [E,<- i_ z];simp)];exact h.no s fun z=>x (by rw [E];exact j5 _ z)
   .have low:∀s j,bW (.inr s) mk r=some (.ref j)->j < S.length:=fun s j q=>by
     by_cases w:s ∈ (ar m).take t
     .obtain⟨y,a,_,H⟩:=h.yes s w;rw [q] at a;cases a;exact aW H
     .rw [h.no s w] at q;cases q
    rw [G] at a b;split at a
    .rename_i z1;cases a;split at b
     .rename_i z2;exact (i_ z1).symm.trans (i_ z2)
     .exact absurd (low _ _ b) (by lia)
    .split at b
     .cases b;exact absurd (low _ _ a) (by lia)
     .exact h.inj s s' j a b
  .have l1:((S++[SO.lst []]).set 4 (.dct (cI (.inr (a8 f)) (.ref S.length) mk r).1 (cI (.inr (a8 f)) (.ref S.length) mk r).2))[S.length]? = some (.lst []):=by
    rw [a7 (by lia)];exact gu _ _
   unfold b6;rw [ky,j_,nT,eo,aw];simp only [u,Z,aw];rw [show cu aN [some (D.ref 0),qp l,v,d,qi (t:Int)] S=some (.ref S.length,S++[.lst []]) by simp];simp only [aw,o,cd,if_pos A,F,c_,l1];rw [show ∀T:aD,aa 4 [some (D.ref 0),qp l,v,d,qi (t:Int)] T=some (.p (.int (t:Int)),T) from fun _=>rfl,aw];simp only [l1];rfl
theorem Bo (y:2≤n) (r:∀f ∈ m,d6 E f) (H:(av m).length≤100) (p:P) (s c:Option D) (h:MI m j C 0 [] [] S) :
  ∃mk a x q,MI m j C (av m).length mk a x/\aO (ag 4) (b6 (Ph n) (Ph (n-1))) (intsFrom 0 (av m).length) [some (.ref 0),qp p,s,c,none] S=some (.nx,[some (.ref 0),qp p,s,c,q],x):=by
 obtain⟨o,x,e,mk,a,q,I,rfl⟩:=bg (g:=ag 4) (b:=b6 (Ph n) (Ph (n-1))) (Inv:=fun t L S=>∃mk a q,MI m j C t mk a S/\L=[some (.ref 0),qp p,s,c,q]) (s:=intsFrom 0 (av m).length) (k:=0) (L:=[some (.ref 0),qp p,s,c,none]) (S:=S) (fun i v L S z I=>by obtain⟨rfl,l⟩:=ints_get z;obtain⟨mk,a,q,I,rfl⟩:=I;simp only [c8];rw [eF] at I ⊢;obtain⟨d,w,x,u,e⟩:=Bn I y (by lia) r (cR l) p s c;exact⟨_,_,x,rfl,e,d,w,_,u,rfl⟩) ⟨[],[],none,h,rfl⟩
 rw [bH,eF] at I;exact⟨mk,a,x,q,I,e⟩
theorem tP (x:Pln m q w) (J:4≤n):∃S,Ph n "Board.__init__" [.ref 0,.p (.tup [.lst m,.lst q,.lst w])] [.ins "Board" [] []]=some (.p .non,S)/\Bd (w5 m q w) S.length 0 S:=by
 obtain⟨n,rfl⟩:=fR (n:=n) (by first | assumption | lia);let l:P:=.tup [.lst m,.lst q,.lst w]
 let R:=a6 (ar m) q
 have F:R.length≤2048:=lH (B:=w5 m q w) x;have G:=gx x;have v:=lq (f:=m);obtain⟨e,f,c⟩:=CB (ψ:=Ph (n+1)) (ι:=Ph n) l (.p (.lst m)) (.ref 1) (.ref 2) (.lst ((homes m).map .p)) (.fz (.lst R)) R 0 ([],[]) JY (by simp;lia) (fun p H=>by obtain⟨r,_,a,b,rfl⟩:=rQ (B:=w5 m q w) H;exact⟨r,a,b,rfl⟩) none none
 rw [show ((0:Nat):Int)=0 from rfl] at c;generalize u:putAll 0 R ([],[])=k at c;have I:MI m (.fz (.lst R)) (.dtt k.1 k.2) 0 [] [] [.ins "Board" fields [.p (.lst m),.ref 1,.ref 2,.ref 3,.ref 4],.lst ((homes m).map .p),.fz (.lst R),.dtt k.1 k.2,.dct [] []]:=
  ⟨rfl,rfl,rfl,rfl,rfl,by simp,rfl,by simp,fun s h=>(by simp at h),fun s _=>rfl,fun s s' j h=>(by cases h)⟩
 obtain⟨mk,y,S,L,M,g⟩:=Bo (n:=n+1) (by lia) x.hf (by lia) l e f I;have t:Bat (w5 m q w) S.length 0 1 2 3 4 mk y S:=by
  refine⟨M.h0,.inl M.h1,.inr M.h2,?_,M.h4,fun s A=>?_,aW M.h0,aW M.h1,aW M.h2,aW M.h3,aW M.h4,Nat.le_refl _⟩
  .have:=M.h3;rw [<- u] at this;exact this
  .have N:(ar m).length=(av m).length:=by simp [ar]
   obtain⟨j,C,_,i⟩:=M.yes s (by rw [<- N,pL];exact A);refine⟨j,aW i,by rw [<- vY];exact C,.inl ?_⟩;have:gZ (ar m) (av m).length s=bX (w5 m q w).N s:=by rw [<- N];rfl
   rw [<- this];exact i
 refine⟨S,?_,1,2,3,4,mk,y,t⟩;have z:=Cv (n:=n+1) (by lia) x.hf x.f0.2 (.lst q) (.lst w);have o:=Cb (n:=n+1) (by lia) x;rw [nS];show (match gN _ _ [some (.ref 0),qp l,none,none,none] [.ins "Board" [] []] with | some (.rt d,_,S)=>some (d,S) | some (.nx,_,S)=>some (.p .non,S) | _=>none)=_;unfold gN;rw [aj (e:=[some (.ref 0),qp l,none,none,none]) (b:=[.ins "Board" ["families"] [.p (.lst m)]]) (by simp [l,jL,Ev.putK,Ev.nr])];rw [aj (e:=[some (.ref 0),qp l,none,none,none]) (b:=[.ins "Board" ["families","homes"] [.p (.lst m),.ref 1],.lst ((homes m).map .p)]) (by simp [l,jL,Ev.putK,Ev.nr,z])];rw [aj (e:=[some (.ref 0),qp l,none,none,none]) (b:=[.ins "Board" ["families","homes","pairs"] [.p (.lst m),.ref 1,.ref 2],.lst ((homes m).map .p),.lst (R.map .p)]) (by simp [l,jL,Ev.putK,Ev.nr,o,R])];rw [aj (e:=[some (.ref 0),qp l,none,none,none]) (b:=[.ins "Board" ["families","homes","pairs","places"] [.p (.lst m),.ref 1,.ref 2,.ref 3],.lst ((homes m).map .p),.lst (R.map .p),.dtt [] []]) (by simp [jL,Ev.putK,Ev.nr])];have E:toP 9 (.ref 2) [.ins "Board" ["families","homes","pairs","places"] [.p (.lst m),.ref 1,.ref 2,.ref 3],.lst ((homes m).map .p),.lst (R.map .p),.dtt [] []]=some (.lst R,[.ins "Board" ["families","homes","pairs","places"] [.p (.lst m),.ref 1,.ref 2,.ref 3],.lst ((homes m).map .p),.fz (.lst R),.dtt [] []]):=ee rfl;rw [aj (e:=[some (.ref 0),qp l,e,f,none]) (b:=[.ins "Board" ["families","homes","pairs","places"] [.p (.lst m),.ref 1,.ref 2,.ref 3],.lst ((homes m).map .p),.fz (.lst R),.dtt k.1 k.2]) (by rw [bC,mL,lJ];rw [show dF (aT Att) (aa 0) "pairs" [some (D.ref 0),qp l,none,none,none] [SO.ins "Board" ["families","homes","pairs","places"] [.p (.lst m),.ref 1,.ref 2,.ref 3],.lst ((homes m).map .p),.lst (R.map .p),.dtt [] []]=some (.ref 2,[SO.ins "Board" ["families","homes","pairs","places"] [.p (.lst m),.ref 1,.ref 2,.ref 3],.lst ((homes m).map .p),.lst (R.map .p),.dtt [] []]) by simp [jL,gI],aw,E];exact c)]
 rw [aj (e:=[some (.ref 0),qp l,e,f,none]) (b:=[.ins "Board" fields [.p (.lst m),.ref 1,.ref 2,.ref 3,.ref 4],.lst ((homes m).map .p),.fz (.lst R),.dtt k.1 k.2,.dct [] []]) (by simp [jL,Ev.putK,Ev.nr,lU,fields])];have K:(homes m).length < 1000000:=by lia
 rw [bC,show hJ (dB (dF (aT Att) (aa 0) "homes")) [some (D.ref 0),qp l,e,f,none] [SO.ins "Board" fields [.p (.lst m),.ref 1,.ref 2,.ref 3,.ref 4],.lst ((homes m).map .p),.fz (.lst R),.dtt k.1 k.2,.dct [] []]=some (intsFrom 0 (homes m).length,[SO.ins "Board" fields [.p (.lst m),.ref 1,.ref 2,.ref 3,.ref 4],.lst ((homes m).map .p),.fz (.lst R),.dtt k.1 k.2,.dct [] []]) by simp [jL,Br,b_,K],aw,v];simp only [j3] at g;rw [g]
noncomputable def LE (f g:q->aD->Option w):Prop:=∀L S r,f L S=some r->g L S=some r
theorem dZ:LE f f:=fun _ _ _ h=>h
theorem aQ (v:∀a,x=some a->j=some a) (k:∀a S r,q a S=some r->w a S=some r) (h:aF x q=some r):aF j w=some r:=by obtain⟨a,S,e,h⟩:=ah h;rw [v _ e,aw];exact k _ _ _ h
section
variable {f e:EE}{a i b z:EV}{c H d A:EB}{s s' t B:ES}{l p:fS}{y u:oh}{g k:GF}
theorem D0 (h:LE s s') (k:LE t B):LE (ac s t) (ac s' B):=fun L S r q=>by
 rw [mG] at q ⊢;cases e:s L S with
 | none=>rw [e] at q;cases q
 | some z=>obtain⟨f,x,a⟩:=z;rw [e] at q;rw [h _ _ _ e];cases f <;> first | exact k _ _ _ q | exact q
theorem le_if (x:LE c H) (h:LE s s') (k:LE t B):LE (dY c s t) (dY H s' B):=fun L S r q=>aQ (x L S) (fun w a r q=>by cases w <;> first | exact k _ _ _ q | exact h _ _ _ q) q
theorem DZ (h:LE f e):LE (ak w f) (ak w e):=fun L S r q=>aQ (h L S) (fun _ _ _ q=>q) q
theorem D1 (h:LE f e):LE (aK f) (aK e):=fun L S r q=>aQ (h L S) (fun _ _ _ q=>q) q
theorem Bv (h:LE f e):LE (bL f) (bL e):=fun L S r q=>aQ (h L S) (fun _ _ _ q=>q) q
theorem sG {g:i4} (h:LE s s'):∀(a:List P) (L:Lc) (S:aD) (r:Fl×Lc×aD),aO g s a L S=some r->aO g s' a L S=some r
 | [],_,_,_,q=>q
 | x::a,L,S,r,q=>by
  simp only [aO] at q ⊢;cases e:g x L with
  | none=>rw [e] at q;cases q
  | some k=>
   rw [e] at q;simp only at q ⊢;cases n:s k S with
   | none=>rw [n] at q;cases q
   | some z=>obtain⟨l,L2,f⟩:=z;rw [n] at q;rw [h _ _ _ n];cases l <;> first | exact sG h a L2 f r q | exact q
theorem D5 {g:i4} (h:LE l p) (k:LE s s'):LE (b7 l g s) (b7 p g s'):=fun L S r q=>aQ (h L S) (fun a x r q=>sG k a L x r q) q
theorem Bt (h:LE a i):LE (fo o w a) (fo o w i):=fun L S r q=>by
 cases e:a L S with
 | none=>simp only [fo,oo,o1,e] at q;cases q
 | some z=>have x:=h _ _ _ e;simp only [fo,oo,o1,e] at q;simp only [fo,oo,o1,x];exact q
theorem GW (h:LE a i):LE (eV a) (eV i):=fun L S r q=>aQ (h L S) (fun _ _ _ q=>q) q
theorem GP (h:LE f e):LE (vE f) (vE e):=fun L S r q=>aQ (h L S) (fun _ _ _ q=>q) q
theorem GR (h:LE a i) (k:LE b z):LE (ab o a b) (ab o i z):=fun L S r q=>aQ (h L S) (fun _ x _ q=>aQ (k L x) (fun _ _ _ q=>q) q) q
theorem D4 (h:LE a i) (k:LE b z):LE (l8 a b) (l8 i z):=fun L S r q=>aQ (h L S) (fun v x r q=>by
 cases v with
 | lst p=>exact aQ (k L x) (fun _ _ _ q=>q) q
 | tup p=>exact aQ (k L x) (fun _ _ _ q=>q) q
 | _=>cases q) q
theorem DX (x:LE c H) (h:LE a i) (k:LE b z):LE (B6 c a b) (B6 H i z):=fun L S r q=>aQ (x L S) (fun w e r q=>by cases w <;> first | exact k _ _ _ q | exact h _ _ _ q) q
theorem GO (h:LE a i) (k:LE l p):LE (aH a l) (aH i p):=fun L S r q=>aQ (h L S) (fun _ x _ q=>aQ (k L x) (fun _ _ _ q=>q) q) q
theorem GX (h:LE f e) (k:LE y u):LE (ae f y) (ae e u):=fun L S r q=>aQ (h L S) (fun _ x _ q=>aQ (k L x) (fun _ _ _ q=>q) q) q
theorem DY (h:LE l p):LE (az l) (az p):=fun L S r q=>aQ (h L S) (fun _ _ _ q=>q) q
theorem D2 (h:LE l p):LE (aS l) (aS p):=fun L S r q=>aQ (h L S) (fun _ _ _ q=>q) q
theorem Bu (h:LE g k) (x:List P) (v:P) (q:pureOf g x=some v):pureOf k x=some v:=by
 unfold pureOf at q ⊢;cases e:g (x.map .p) [] with
 | none=>rw [e] at q;cases q
 | some z=>rw [e] at q;rw [h _ _ _ e];exact q
theorem vT (u:∀x v,w x=some v->j x=some v) (h:LE l p):LE (af w l) (af j p):=fun L S r q=>aQ (h L S) (fun x a r q=>by obtain⟨v,e,rfl⟩:=jg.mp q;rw [u _ _ e];rfl) q
theorem zg (a:LE g k) (h:LE y u):LE (cD g y) (cD k u):=fun L S r q=>aQ (h L S) (fun s x r q=>aQ (a s x) (fun _ _ _ q=>q) q) q
theorem w_ (a:LE g k) (h:LE y u):LE (fX g y) (fX k u):=fun L S r q=>aQ (h L S) (fun s x r q=>a s x r q) q
theorem vS (n:∀c g,M c j=some g->∃k,C c j=some k/\LE g k) (h:LE y u):LE (dA M o j y) (dA C o j u):=fun L S r q=>aQ (fun _ e=>e) (fun w a r q=>by
 cases w with
 | p v=>cases q
 | ref i=>
  cases e:a[i]? with
  | none=>simp only [e] at q;cases q
  | some t=>
   cases t with
   | ins c z l=>
    simp only [e] at q ⊢;cases m:M c j with
    | none=>simp only [m] at q;cases q
    | some g=>
     obtain⟨k,x,f⟩:=n c g m;simp only [m,x] at q ⊢;split at q
     .cases q
     .rename_i b;rw [if_neg b];exact aQ (h L a) (fun d s r q=>f (.ref i::d) s r q) q
   | _=>simp only [e] at q;cases q) q
theorem Bw {j t:fS}{f:List Nat}{n:Nat}{g:i4} (F:LE j t) (o:LE c H) (h:LE a i):LE (aX j f n g c a) (aX t f n g H i):=fun L S r q=>aQ (F L S) (fun l p r q=>by
 split at q
 .rename_i d;rw [if_pos d];refine aQ (q:=fun K s=>some (P.lst K,s)) (fun z e=>?_) (fun _ _ _ q=>q) q;clear q d;generalize kj f n L=b at e ⊢;induction l generalizing b p z with
  | nil=>exact e
  | cons x l u=>
   simp only [bb] at e ⊢;cases v:g x b with
   | none=>rw [v] at e;cases e
   | some m=>
    rw [v] at e;simp only at e ⊢;refine aQ (o m p) (fun w s r e=>?_) e;cases w with
    | false=>exact u _ _ _ e
    | true=>exact aQ (h m s) (fun y A r e=>aQ (fun z e=>u _ _ _ e) (fun _ _ _ q=>q) e) e
 .cases q) q
theorem D3 (h:LE a i):LE (hG a) (hG i):=fun L S r q=>aQ (h L S) (fun _ _ _ q=>q) q
theorem D6 (h:LE a i):LE (dI o a) (dI o i):=fun L S r q=>aQ (fun _ e=>e) (fun w x r q=>by
 cases e:c_ w x with
 | none=>simp only [e] at q;cases q
 | some z=>simp only [e] at q ⊢;exact aQ (h L x) (fun _ _ _ q=>q) q) q
theorem GQ (h:LE c H):LE (vB c) (vB H):=fun L S r q=>aQ (h L S) (fun _ _ _ q=>q) q
theorem G1 (h:LE a i):LE (bV a) (bV i):=fun L S r q=>aQ (h L S) (fun _ _ _ q=>q) q
theorem G2 (h:LE f e):LE (bT f) (bT e):=fun L S r q=>aQ (h L S) (fun _ _ _ q=>q) q
theorem G4 (h:LE c H):LE (rM c) (rM H):=fun L S r q=>aQ (h L S) (fun _ _ _ q=>q) q
theorem G5 (h:LE c H) (k:LE d A):LE (fP c d) (fP H A):=fun L S r q=>aQ (h L S) (fun w x r q=>by cases w <;> first | exact q | exact k _ _ _ q) q
theorem G3 (h:LE c H) (k:LE d A):LE (xO c d) (xO H A):=fun L S r q=>aQ (h L S) (fun w x r q=>by cases w <;> first | exact k _ _ _ q | exact q) q
theorem bZ (h:LE s s'):LE (cJ j w s) (cJ j w s'):=fun x S r q=>by
 unfold cJ at q ⊢;split at q
 .rename_i l;rw [if_pos l];cases e:s (x.map some++List.replicate (w-x.length) none) S with
  | none=>rw [e] at q;cases q
  | some z=>rw [e] at q;rw [h _ _ _ e];exact q
 .cases q
end
noncomputable def eZ:LS:=["value_of","holds","compared","values_of","Board.family_of","Board.hands_beside","unlike_spots","replaced","without","takeable","cells_behind","whos_behind","targets_of","posted","sendings","step_ends","hand_ends"]
theorem y_:(Tb.all fun d=>!(decide (d.short=("family_of":Str)) || decide (d.short=("hands_beside":Str))) || decide (d.name ∈ eZ))=true:=by decide +kernel
theorem DU (e:Tb.find? (Cm r "family_of")=some d):d.name ∈ eZ:=by have x:=bn.mp y_ d (pU e);have h:=mF e;unfold Cm at h;simp only [Bool.and_eq_true,decide_eq_true_eq] at h;simpa [h.1.2] using x
theorem DT (e:Tb.find? (Cm r "hands_beside")=some d):d.name ∈ eZ:=by have x:=bn.mp y_ d (pU e);have h:=mF e;unfold Cm at h;simp only [Bool.and_eq_true,decide_eq_true_eq] at h;simpa [h.1.2] using x
noncomputable def Fb (ψ ψ':Str->GF):Prop:=∀x ∈ eZ,LE (ψ x) (ψ' x)
section
variable {ψ ψ':Str->GF} (h:Fb ψ ψ') {x:Str} (v:x ∈ eZ) {l p:fS}{y u:oh}{o:EE}
include h v
theorem GY (k:LE l p):LE (af (pureOf (ψ x)) l) (af (pureOf (ψ' x)) p):=vT (Bu (h x v)) k
theorem GZ (k:LE y u):LE (cD (ψ x) y) (cD (ψ' x) u):=zg (h x v) k
theorem G0 (k:LE y u):LE (fX (ψ x) y) (fX (ψ' x) u):=w_ (h x v) k
end
variable {o:EE}
theorem GV (h:Fb ψ ψ') (k:LE y u):LE (dA (mT Tb ψ) o "family_of" y) (dA (mT Tb ψ') o "family_of" u):=vS (fun c g e=>by
 unfold Ev.mT at e ⊢;split at e
 .cases e
 .rename_i n;rw [if_neg n];obtain⟨d,x,rfl⟩:=jg.mp e;rw [x];exact⟨_,rfl,h _ (DU x)⟩) k
theorem GU (h:Fb ψ ψ') (k:LE y u):LE (dA (mT Tb ψ) o "hands_beside" y) (dA (mT Tb ψ') o "hands_beside" u):=vS (fun c g e=>by
 unfold Ev.mT at e ⊢;split at e
 .cases e
 .rename_i n;rw [if_neg n];obtain⟨d,x,rfl⟩:=jg.mp e;rw [x];exact⟨_,rfl,h _ (DT x)⟩) k
section
variable {ψ ψ' ι ι':Str->GF} (h:Fb ψ ψ')
include h
theorem cS:LE (bO ψ ι) (bO ψ' ι')/\LE (dm ψ ι) (dm ψ' ι')/\LE (bK ψ ι) (bK ψ' ι')/\LE (dc ψ ι) (dc ψ' ι')/\LE (bx ψ ι) (bx ψ' ι')/\LE (bY ψ ι) (bY ψ' ι')/\LE (eL ψ ι) (eL ψ' ι')/\LE (dM ψ ι) (dM ψ' ι')/\LE (bP ψ ι) (bP ψ' ι')/\LE (cF ψ ι) (cF ψ' ι'):=by
 refine⟨?_,?_,?_,?_,?_,?_,?_,?_,?_,?_⟩;all_goals first | unfold bO | unfold dm | unfold bK d5 aG | unfold dc di | unfold bx | unfold bY | unfold eL d9 | unfold dM eA eB eC | unfold bP fA | unfold cF cY fE
 all_goals repeat' with_reducible first | exact dZ | refine D0 ?_ ?_ | refine le_if ?_ ?_ ?_ | refine DZ ?_ | refine D1 ?_ | refine Bv ?_ | refine D5 ?_ ?_ | refine Bt ?_ | refine GW ?_ | refine GP ?_ | refine GR ?_ ?_ | refine D4 ?_ ?_ | refine DX ?_ ?_ ?_ | refine GO ?_ ?_ | refine GX ?_ ?_ | refine DY ?_ | refine D2 ?_ | refine GY h (by simp [eZ]) ?_ | refine GV h ?_ | refine GU h ?_ | refine vT (fun _ _ q=>q) ?_ | refine GZ h (by simp [eZ]) ?_ | refine G0 h (by simp [eZ]) ?_ | refine Bw ?_ ?_ ?_ | refine D3 ?_ | refine D6 ?_ | refine GQ ?_ | refine G1 ?_ | refine G2 ?_ | refine G4 ?_ | refine G5 ?_ ?_ | refine G3 ?_ ?_
end
theorem sZ:Ph 1 "value_of"=cJ 2 5 (bO (Ph 0) (Ph 0)):=by kernel_rfl
theorem zP:Ph 1 "holds"=cJ 2 3 (dm (Ph 0) (Ph 0)):=by kernel_rfl
theorem tj:Ph 1 "compared"=cJ 3 3 (bQ (Ph 0) (Ph 0)):=by kernel_rfl
theorem qR:Ph 1 "values_of"=cJ 2 2 (d8 (Ph 0) (Ph 0)):=by kernel_rfl
theorem j':Ph 1 "Board.family_of"=cJ 2 2 (cQ (Ph 0) (Ph 0)):=by kernel_rfl
theorem i6:Ph 1 "Board.hands_beside"=cJ 3 3 (bt (Ph 0) (Ph 0)):=by kernel_rfl
theorem mh:Ph 1 "unlike_spots"=cJ 2 3 (cg (Ph 0) (Ph 0)):=by kernel_rfl
theorem ti:Ph 1 "replaced"=cJ 3 3 (fg (Ph 0) (Ph 0)):=by kernel_rfl
theorem uR:Ph 1 "without"=cJ 2 2 (fO (Ph 0) (Ph 0)):=by kernel_rfl
theorem s_:Ph 1 "takeable"=cJ 4 10 (dc (Ph 0) (Ph 0)):=by kernel_rfl
theorem mi:Ph 1 "cells_behind"=cJ 4 11 (bK (Ph 0) (Ph 0)):=by kernel_rfl
theorem nU:Ph 1 "whos_behind"=cJ 4 4 (bx (Ph 0) (Ph 0)):=by kernel_rfl
theorem oH:Ph 1 "targets_of"=cJ 5 6 (bY (Ph 0) (Ph 0)):=by kernel_rfl
theorem xA:Ph 1 "posted"=cJ 5 9 (eL (Ph 0) (Ph 0)):=by kernel_rfl
theorem tf:Ph 1 "sendings"=cJ 6 18 (dM (Ph 0) (Ph 0)):=by kernel_rfl
theorem qS:Ph 1 "step_ends"=cJ 5 16 (bP (Ph 0) (Ph 0)):=by kernel_rfl
theorem qT:Ph 1 "hand_ends"=cJ 3 11 (cF (Ph 0) (Ph 0)):=by kernel_rfl
theorem lv:∀n:Nat,Fb (Ph n) (Ph (n+1))
 | 0=>fun x _ L S r q=>by cases (show (none:Option (D×aD))=some r from q)
 | 1=>fun x v=>by
  have i:=lv 0;simp only [eZ,bj,dU,dS] at v;rcases v with rfl | rfl | rfl | rfl | rfl | rfl | rfl | rfl | rfl | rfl | rfl | rfl | rfl | rfl | rfl | rfl | rfl
  .rw [sZ,cz 0];exact bZ (cS i).1
  .rw [zP,eR 0];exact bZ (cS i).2.1
  .rw [tj,gj 0];exact bZ (by unfold bQ;exact dZ)
  .rw [qR,fI 0];exact bZ (by unfold d8;exact dZ)
  .rw [j',b9 0];exact bZ (by unfold cQ;exact dZ)
  .rw [i6,cb 0];exact bZ (by unfold bt;exact dZ)
  .rw [mh,cT 0];exact bZ (by unfold cg;exact dZ)
  .rw [ti,gi 0];exact bZ (by unfold fg;exact dZ)
  .rw [uR,gX 0];exact bZ (by unfold fO;exact dZ)
  .rw [s_,ff 0];exact bZ (cS i).2.2.2.1
  .rw [mi,cV 0];exact bZ (cS i).2.2.1
  .rw [nU,cx 0];exact bZ (cS i).2.2.2.2.1
  .rw [oH,cU 0];exact bZ (cS i).2.2.2.2.2.1
  .rw [xA,gL 0];exact bZ (cS i).2.2.2.2.2.2.1
  .rw [tf,gh 0];exact bZ (cS i).2.2.2.2.2.2.2.1
  .rw [qS,d7 0];exact bZ (cS i).2.2.2.2.2.2.2.2.1
  .rw [qT,fJ 0];exact bZ (cS i).2.2.2.2.2.2.2.2.2
 | n+2=>fun x v=>by
  have i:=lv (n+1);simp only [eZ,bj,dU,dS] at v;rcases v with rfl | rfl | rfl | rfl | rfl | rfl | rfl | rfl | rfl | rfl | rfl | rfl | rfl | rfl | rfl | rfl | rfl
  .rw [cz n,cz (n+1)];exact bZ (cS i).1
  .rw [eR n,eR (n+1)];exact bZ (cS i).2.1
  .rw [gj n,gj (n+1)];exact bZ (by unfold bQ;exact dZ)
  .rw [fI n,fI (n+1)];exact bZ (by unfold d8;exact dZ)
  .rw [b9 n,b9 (n+1)];exact bZ (by unfold cQ;exact dZ)
  .rw [cb n,cb (n+1)];exact bZ (by unfold bt;exact dZ)
  .rw [cT n,cT (n+1)];exact bZ (by unfold cg;exact dZ)
  .rw [gi n,gi (n+1)];exact bZ (by unfold fg;exact dZ)
  .rw [gX n,gX (n+1)];exact bZ (by unfold fO;exact dZ)
  .rw [ff n,ff (n+1)];exact bZ (cS i).2.2.2.1
  .rw [cV n,cV (n+1)];exact bZ (cS i).2.2.1
  .rw [cx n,cx (n+1)];exact bZ (cS i).2.2.2.2.1
  .rw [cU n,cU (n+1)];exact bZ (cS i).2.2.2.2.2.1
  .rw [gL n,gL (n+1)];exact bZ (cS i).2.2.2.2.2.2.1
  .rw [gh n,gh (n+1)];exact bZ (cS i).2.2.2.2.2.2.2.1
  .rw [d7 n,d7 (n+1)];exact bZ (cS i).2.2.2.2.2.2.2.2.1
  .rw [fJ n,fJ (n+1)];exact bZ (cS i).2.2.2.2.2.2.2.2.2
theorem GN (h:n≤w):Fb (Ph n) (Ph w):=by
 obtain⟨k,rfl⟩:=Nat.exists_eq_add_of_le h;clear h;induction k with
 | zero=>exact fun _ _=>dZ
 | succ k i=>exact fun x v L S r q=>lv (n+k) x v L S r (i x v L S r q)
end My
namespace My
open PySem L2 Ev
noncomputable abbrev aB (B:BD):P:=.tup [.lst B.fams,.lst B.roads,.lst B.wishes]
variable {B:BD}{t:List P}{s:List P}
theorem HM (w:Pln B.fams B.roads B.wishes) (L:Places B) (g:StL B t s):∃u,HL B t s u:=by
 have x:=fun k (h:k < (av B.fams).length)=>G_ w L (n:=12) (by lia) (cR h) g;let f:Nat->List P:=fun k=>if h:k < (av B.fams).length then Classical.choose (x k h) else []
 refine⟨f,fun k h=>?_⟩;rw [show f k=Classical.choose (x k h) from dif_pos h];obtain⟨c,p,q⟩:=Classical.choose_spec (x k h);refine⟨c,p,fun m j b i S v=>?_⟩;obtain⟨d,a,e,r⟩:=q b i S v;exact⟨d,a,GN j "hand_ends" (by simp [eZ]) _ _ _ e,r⟩
noncomputable def HE (x y:P):Prop:=∀r h:P,∀a c:Nat,x=pr r a c->y=pr h a c->False
theorem wj (N:LS) (s:Str):(bX N s).Pairwise (·≠·):=(List.nodup_range (n:=N.length)).filter _
variable {N:LS}
theorem wk (h:i ∈ bX N x):N[i]? = some x:=of_decide_eq_true (fU.mp h).2
theorem lb (h:pr r a c=pr k x e):a=x/\c=e:=by simp only [pr,P.tup.injEq,ir,P.int.injEq,i9] at h;exact⟨by lia,by lia⟩
theorem vD (h:x ∈ tW N r):∃a c,x=pr r a c/\N[a]? = some (rA r)/\N[c]? = some (rB r):=by obtain⟨a,e,h⟩:=jc.mp h;obtain⟨c,s,rfl⟩:=bA.mp h;exact⟨a,c,rfl,wk e,wk (fU.mp s).1⟩
theorem Dp (h:o.Pairwise RD):(a6 N o).Pairwise HE:=by
 refine List.pairwise_flatMap.mpr ⟨fun r _=>List.pairwise_flatMap.mpr ⟨fun a _=>List.pairwise_map.mpr ?_,?_⟩,h.imp fun {r H} i x f y b q d a c e s=>?_⟩
 .refine ((wj N (rB r)).filter _).imp fun {c w} g q d m t e s=>g ?_;have n:=lb e;have k:=lb s;lia
 .refine (wj N (rA r)).imp fun {a j} u x f y b q d m t e s=>u ?_;obtain⟨c,_,rfl⟩:=bA.mp f;obtain⟨w,_,rfl⟩:=bA.mp b;have n:=lb e;have k:=lb s;lia
 .obtain⟨l,z,rfl,n,k⟩:=vD f;obtain⟨m,t,rfl,p,v⟩:=vD b;obtain⟨rfl,rfl⟩:=lb e;obtain⟨rfl,rfl⟩:=lb s;rw [n] at p;rw [k] at v;exact i ⟨Option.some.inj p,Option.some.inj v⟩
theorem EM {B:BD} (m:Pln B.fams B.roads B.wishes) {k x:Nat}{r e:P}{a c:Nat} (h:B.PR[k]? = some (pr r a c)) (b:B.PR[x]? = some (pr e a c)):k=x:=by
 have p:B.PR.Pairwise HE:=Dp m.rd;rw [List.pairwise_iff_getElem] at p;obtain⟨l,s⟩:=List.getElem?_eq_some_iff.mp h;obtain⟨f,n⟩:=List.getElem?_eq_some_iff.mp b;rcases Nat.lt_trichotomy k x with q | q | q
 .exact (p k x l f q r e a c s n).elim
 .exact q
 .exact (p x k f l q e r a c n s).elim
theorem xQ.ok (h:xQ B st):bR 5 st=true:=by
 obtain⟨t,s,rfl,S⟩:=h;have f:bR 4 (.tup t)=true:=bn.mpr fun x a=>by
  obtain⟨i,k,rfl⟩:=jf.mp a;obtain⟨_,_,_,_,_,_,_,r,n,w,e,_,m,_,hw⟩:=S.hh i _ _ (cR (by rw [<- S.hl];exact k)) (cR k);have o:bR 2 (.tup n)=true:=bn.mpr fun c h=>by obtain⟨i,_,rfl⟩:=m.2 c h;simp
  have p:bR 2 (.tup w)=true:=bn.mpr fun c h=>(hw c h).ok 1;rw [e];show (List.all [_,P.tup n,P.tup w] (bR 2))=true;rw [dD,dD,dD,o,p];simp
 have b:bR 4 (.tup s)=true:=bn.mpr fun x a=>by obtain⟨q,u,rfl⟩:=S.hr.2 x a;exact bn.mpr fun l h=>br (u.2 l h).ok (by lia)
 show (List.all [P.tup t,P.tup s] (bR 4))=true;rw [dD,dD,f,b];rfl
variable {w:Str}{q:Int->Prop}
theorem xh.ok (h:xh w q d):bR 3 d=true:=by obtain⟨k,x,r,rfl,_,_,h⟩:=h;exact bn.mpr h
theorem h_.ok (h:h_ B w q y):bR 6 y=true:=by obtain⟨d,st,rfl,hd,t⟩:=h;show (List.all [d,st] (bR 5))=true;rw [dD,dD,br hd.ok (by lia),t.ok];rfl
noncomputable abbrev uK:P->P:=fun y=>match y with | .tup (d::_)=>d | _=>.non
noncomputable abbrev mr (B:BD) (t s:List P) (u:Nat->List P):List P:=jQ B u++cH B t s "lose"++cH B t s "double"
variable {u:Nat->List P}
theorem zG (H:HL B t s u) (h:z ∈ jQ B u):∃q,h_ B "step" q z:=by obtain⟨k,x,h⟩:=jc.mp h;exact⟨_,(H k (jZ.mp x)).2.1 z h⟩
theorem Am (P:Pln B.fams B.roads B.wishes) (S:StL B t s) (H:HL B t s u) (x:z ∈ mr B t s u):∃w q,h_ B w q z:=by
 rcases cC.mp x with x | x
 .rcases cC.mp x with x | x
  .obtain⟨q,h⟩:=zG H x;exact⟨_,q,h⟩
  .obtain⟨_,_,_,_,_,_,_,_,_,h⟩:=fN P S (.inl rfl) x;exact⟨_,_,h⟩
 .obtain⟨_,_,_,_,_,_,_,_,_,h⟩:=fN P S (.inr rfl) x;exact⟨_,_,h⟩
variable {n:Nat}
theorem Cy (c:B=w5 B.fams B.roads B.wishes) (P:Pln B.fams B.roads B.wishes) (w:18≤n) (m:StL B t s) (H:HL B t s u):pureOf (Ph n "ends_from") [aB B,.tup [.tup t,.tup s]]=some (.lst (mr B t s u)):=by obtain⟨n,rfl⟩:=fR (n:=n) (by first | assumption | lia);obtain⟨v,b⟩:=wa P (n:=n+1) (by lia) m H;obtain⟨S,x,h⟩:=tP P (n:=n) (by lia);rw [<- c] at h;obtain⟨d,p,k,r,a⟩:=b _ _ _ h;obtain⟨q,f,_⟩:=a.toP r h.le;have e:Ph n "Board.__init__" [.ref 0,.p (aB B)] [.ins "Board" [] []]=some (.p .non,S):=x;rw [oG,ai];simp [jW,e,k,f]
theorem Hm (k:B=w5 B.fams B.roads B.wishes) (P:Pln B.fams B.roads B.wishes) (m:20≤n) (S:StL B t s) (H:HL B t s u):pureOf (Ph n "deeds") [aB B,.tup [.tup t,.tup s]]=some (.lst ((mr B t s u).map uK)):=by
 obtain⟨n,rfl⟩:=fR (n:=n) (by first | assumption | lia);have e:=Cy k P (n:=n+1) (by lia) S H;have a:(mr B t s u).length≤40000:=(wa P (n:=n+1) (by lia) S H).1;have hd:=fun z (h:z ∈ mr B t s u)=>Am P S H h;generalize mr B t s u=y at e a hd;have x:bb (ag 2) fm (ab al (vv 2) (vi 0)) y [qp (aB B),qp (.tup [.tup t,.tup s]),none] []=some (y.map uK,[]):=by rw [bI (p:=fun _=>true) (f:=uK) (Inv:=fun L=>∃d,L=[qp (aB B),qp (.tup [.tup t,.tup s]),d]) (fun v c L b=>?_) ⟨none,rfl⟩,eP];obtain⟨d,rfl⟩:=b;obtain⟨_,_,d,st,rfl,_⟩:=hd v c;exact⟨[qp (aB B),qp (.tup [.tup t,.tup s]),qp (.tup [d,st])],rfl,⟨_,rfl⟩,rfl,fun _=>by simp⟩
 have q:y.length≤1000000:=by lia
 rw [xx,ai];simp [pG,aX,e,q,kj,x]
theorem BI (h:bR 20 (.tup x)=true) (a:bR 20 (.tup y)=true):xt (.tup x) (.tup y)=some (PyData.eqv (pd (.tup x)) (pd (.tup y))):=by show (if (bR 20 (.tup x) && bR 20 (.tup y))=true then some _ else none)=_;rw [h,a];rfl
theorem Hi (h:xh w q d) (a:xh f k x):xt d x=some (PyData.eqv (pd d) (pd x)):=by have o:=br h.ok (show 3≤20 by lia);have e:=br a.ok (show 3≤20 by lia);obtain⟨_,_,_,rfl,_⟩:=h;obtain⟨_,_,_,rfl,_⟩:=a;exact BI o e
theorem CA (p j:Str->GF) (f:xh w q x) (n k:Option D) (S:aD):∀{s:List P},(∀z ∈ s,∃w q,h_ B w q z)->(∃z ∈ s,PyData.eqv (pd (uK z)) (pd x)=true)->∀m r:Option D,∃z ∈ s,∃d st L,z=.tup [d,st]/\PyData.eqv (pd d) (pd x)=true/\aO (aI [ag 3,ag 4]) (gp p j) s [n,k,qp x,m,r] S=some (.rt (.p st),L,S)
 | [],_,h,_,_=>by obtain⟨_,h,_⟩:=h;cases h
 | y::s,c,h,m,r=>by
  obtain⟨o,l,d,st,rfl,hd,_⟩:=c y List.mem_cons_self;have e:=Hi hd f;cases b:PyData.eqv (pd d) (pd x) with
  | true=>refine⟨_,List.mem_cons_self,d,st,[n,k,qp x,qp d,qp st],rfl,b,?_⟩;rw [b] at e;unfold aO;simp [gp,e]
  | false=>
   obtain⟨z,a,v,t,L,u,g,i⟩:=CA p j f n k S (s:=s) (fun z a=>c z (aY _ a)) (by
    obtain⟨z,a,e⟩:=h;rcases bj.mp a with rfl | a
    .rw [show PyData.eqv (pd (uK (.tup [d,st]))) (pd x)=PyData.eqv (pd d) (pd x) from rfl,b] at e;cases e
    .exact⟨z,a,e⟩) (qp d) (qp st)
   refine⟨z,aY _ a,v,t,L,u,g,?_⟩;rw [b] at e;exact (bf (s:=[n,k,qp x,qp d,qp st]) (L2:=[n,k,qp x,qp d,qp st]) (k:=S) rfl (by simp [gp,e])).trans i
theorem Cz {B:BD} (hB:B=w5 B.fams B.roads B.wishes) (i:Pln B.fams B.roads B.wishes) {n:Nat} (E:20≤n) {t s:List P} (K:StL B t s) {u:Nat->List P} (C:HL B t s u) {w:Str} (hw:w="lose"\/w="double") {d e:P} (J:.tup [d,e] ∈ cH B t s w):pureOf (Ph n "do") [aB B,.tup [.tup t,.tup s],d]=some e:=by
 obtain⟨n,rfl⟩:=LK (n:=n) (by first | assumption | lia);have M:.tup [d,e] ∈ mr B t s u:=by
  rcases hw with rfl | rfl
  .exact j5 _ (dX _ J)
  .exact dX _ J
 obtain⟨k,road,ls,a,c,U,hk,hr,v,d',e',T,l,_⟩:=fN i K hw J;simp only [P.tup.injEq,ir,i9] at T;obtain⟨rfl,rfl⟩:=T;obtain⟨h1,h3⟩:=wa i (n:=n+2) (by lia) K C;obtain⟨f,e1,R⟩:=tP i (n:=n+2) (by lia);rw [<- hB] at R;obtain⟨dd,S2,e2,fr,Y⟩:=h3 _ _ _ R;obtain⟨Q,e3,fr3⟩:=oa (b:=f.length) (g:=Ph (n+2) "ends_on") (q:=ae (aa 0) (ae (aa 1) ba)) (L:=[some (.ref 0),qp (.tup [.tup t,.tup s]),qp d,none,none]) (S:=f) (l:=[.ref 0,.p (.tup [.tup t,.tup s])]) rfl e2 fr (Nat.le_refl _) Y;obtain⟨z,x,d2,p,L',rfl,o,e4⟩:=CA (B:=B) (Ph (n+2)) (Ph (n+1)) l (some (.ref 0)) (qp (.tup [.tup t,.tup s])) Q (fun z h=>Am i K C h) ⟨_,M,pQ _ (eX 20 d (br l.ok (by lia))).1⟩ none none;have G:p=e:=by
  unfold gW at v;simp only [P.tup.injEq,ir,i9] at v;obtain⟨rfl,rfl⟩:=v;have j:∀{F:Str},(F="lose"\/F="double")->.tup [d2,p] ∈ cH B t s F->p=.tup [.tup t,.tup (s.set k (.tup (sU w ls U)))]:=fun {F} I hm=>by
   obtain⟨k',N,ls',X,Z,O,D,H,m,_⟩:=fN i K I hm;unfold gW at m;simp only [P.tup.injEq,ir,i9] at m;obtain⟨rfl,rfl⟩:=m;simp [pd,lg,PyData.eqv,PyData.eqvAll] at o;obtain⟨rfl,rfl,rfl,rfl⟩:F=w/\X=a/\Z=c/\O=U:=⟨o.1,by lia,by lia,by lia⟩;have:=EM i hk D
   subst this;rw [hr] at H;cases H;rfl
  rcases cC.mp x with x | x
  .rcases cC.mp x with x | x
   .obtain⟨q,d3,rT,y,⟨k3,x3,r3,rfl,_⟩,_⟩:=zG C x;simp only [P.tup.injEq,ir,i9] at y;obtain⟨rfl,rfl⟩:=y;simp [pd,lg,PyData.eqv,PyData.eqvAll] at o;have E:¬("step":Str)="lose"/\¬("step":Str)="double":=by decide +kernel
    rcases hw with rfl | rfl
    .exact absurd o.1 E.1
    .exact absurd o.1 E.2
   .exact j (.inl rfl) x
  .exact j (.inr rfl) x
 subst G;have e5:Ph (n+3) "do_on" [.ref 0,.p (.tup [.tup t,.tup s]),.p d] f=some (.p p,Q):=by rw [xw];show (match lF _ _ [some (.ref 0),qp (.tup [.tup t,.tup s]),qp d,none,none] f with | some (.rt d,_,f)=>some (d,f) | some (.nx,_,f)=>some (.p .non,f) | _=>none)=_;unfold lF;rw [mG,bC,fW,e3];show (match (match aO _ _ (mr B t s u) _ _ with | some (.nx,V,W)=>nl V W | r=>r) with | some (.rt d,_,f)=>some (d,f) | some (.nx,_,f)=>some (.p .non,f) | _=>none)=_;rw [e4]
 have A:Ph (n+2) "Board.__init__" [.ref 0,.p (aB B)] [.ins "Board" [] []]=some (.p .non,f):=e1;rw [Eo,ai];simp [Ai,A,e5]
section
variable {m:List P}
theorem jt (h:∀f ∈ a,d6 m f) (u:a.length≤4):(av a).length≤16:=by have:=uI 0 h;unfold av;simp;lia
theorem vO (p j:Str->GF) (d:P):∀(s:List P) (k:Nat) (a:List P) (g:Option D),(∀f ∈ s,d6 m f)->a.length+4 * s.length≤1000 ->
  ∃q,aO (ag 2) (d4 p j) s [qp d,ql a,g] []=some (.nx,[qp d,ql (a++(hw k s).map (·.2)),q],[])
 | [],k,a,g,_,_=>⟨g,by simp [aO,hw]⟩
 | f::r,k,a,g,h,u=>by
  obtain⟨A,c,o,l,w,t,S,rfl⟩:=h f List.mem_cons_self;have B:=S.hcr.2;simp only [bc] at u;generalize H:P.tup [.str A,.int (c:Int),.lst o,.lst l,.lst w,.lst t]=F;have y:al F (.int 1)=some (.int (c:Int)):=by rw [<- H];simp
  have i:fY F=c:=by rw [<- H];simp [fY]
  obtain⟨q,e⟩:=vO p j d r (k+1) (a++List.replicate c F) (qp F) (fun x K=>h x (aY _ K)) (by simp;lia);refine⟨q,?_⟩;have z:(hw k (F::r)).map (·.2)=List.replicate c F++(hw (k+1) r).map (·.2):=by simp [hw,i]
  rw [z,<- List.append_assoc];refine (bf (s:=[qp d,ql a,qp F]) (L2:=[qp d,ql (a++List.replicate c F),qp F]) (k:=[]) rfl ?_).trans e;have v:c≤1000000:=by lia
  have n:c < 1000000:=by lia
  have b:a.length+c≤1000000:=by lia
  simp [d4,y,v,n,b]
theorem vN (x:2≤n) (h:∀f ∈ a,d6 m f) (u:a.length≤4) (r w:P):pureOf (Ph n "_law_families") [.tup [.lst a,r,w]]=some (.lst (av a)):=by obtain⟨n,rfl⟩:=fR (n:=n) (by first | assumption | lia);obtain⟨q,e⟩:=vO (Ph (n+1)) (Ph n) (.tup [.lst a,r,w]) a 0 [] none h (by simp;lia);rw [lw,ai];simp only [fu] at e;simp [im,e,av]
theorem pk (A:3≤n) (h:∀f ∈ x,d6 m f) (u:x.length≤4) (o k:P) (s:Str) :
  pureOf (Ph n "_law_crew") [.tup [.lst x,o,k],.str s]=some (.lst ((bX (ar x) s).map fun (i:Nat)=>P.int (i:Int))):=by
 obtain⟨n,rfl⟩:=fR (n:=n) (by first | assumption | lia);have g:=vN (n:=n+1) (by lia) h u o k;have d:=jt h u;have j:bb (aI [ag 2,ag 3]) (bV (aA dC (eV (ab al (vv 3) (vi 0))) (aa 1))) (vv 2) (aR 0 (av x)) [qp (.tup [.lst x,o,k]),qs s,none,none] [] =
   some (((aR 0 (av x)).filter fun v=>match v with | .tup [_,f]=>decide (a8 f=s) | _=>false).map (fun v=>match v with | .tup [i,_]=>i | _=>.non),[]):=by
  refine bI (Inv:=fun L=>∃a b,L=[qp (.tup [.lst x,o,k]),qs s,a,b]) (fun v F L y=>?_) ⟨none,none,rfl⟩;obtain⟨a,b,rfl⟩:=y;obtain⟨i,p,e⟩:=jf.mp F;obtain⟨f,z,rfl⟩:=dg (s:=av x) (i:=i) (v:=v) (by rw [cR p,e]);obtain⟨K,c,r,l,w,t,H,rfl⟩:=ib h (bF z);exact⟨[qp (.tup [.lst x,o,k]),qs s,qi (i:Int),qp (.tup [.str K,.int (c:Int),.lst r,.lst l,.lst w,.lst t])],rfl,⟨_,_,rfl⟩,by simp [a8];first | done | exact pN.mpr Iff.rfl,fun _=>by simp⟩
 have S:(aR 0 (av x)).length≤1000000:=by rw [cf];lia
 rw [qO,ai];simp [kP,aX,g,S,kj,j];rw [zO];unfold bX ar;rw [mE,mQ,b8];congr 1;refine List.filter_congr fun i p=>?_;have q:i < (av x).length:=by simpa using p
 simp [q]
theorem JV (p j:Str->GF) (l road:P) (n:Nat):∀(os:List Nat) (a:List P) (s:Option D),a.length+os.length≤100000->∃q,aO (ag 4) (dN p j) (bG os) [qp l,some (.ref 0),qp road,qi (n:Int),s] [.lst (a.map .p)] =
   some (.nx,[qp l,some (.ref 0),qp road,qi (n:Int),q],[.lst ((a++(os.filter fun o=>!decide (n=o)).map fun o=>pr road n o).map .p)])
 | [],a,s,_=>⟨s,by simp [bG,aO]⟩
 | o::os,a,s,u=>by
  simp only [bc] at u;by_cases h:n=o
  .obtain⟨q,e⟩:=JV p j l road n os a (qi (o:Int)) (by lia);refine⟨q,?_⟩;have k:(o::os).filter (fun o=>!decide (n=o))=os.filter fun o=>!decide (n=o):=by simp [h]
   rw [k];refine (bf (s:=[qp l,some (.ref 0),qp road,qi (n:Int),qi (o:Int)]) (L2:=[qp l,some (.ref 0),qp road,qi (n:Int),qi (o:Int)]) (k:=[.lst (a.map .p)]) rfl ?_).trans e;simp [dN,h]
  .obtain⟨q,e⟩:=JV p j l road n os (a++[pr road n o]) (qi (o:Int)) (by simp;lia);refine⟨q,?_⟩;have k:((o::os).filter (fun o=>!decide (n=o))).map (fun o=>pr road n o)=pr road n o::(os.filter fun o=>!decide (n=o)).map fun o=>pr road n o:=by simp [h]
   rw [k,show a++pr road n o::(os.filter fun o=>!decide (n=o)).map (fun o=>pr road n o)=a++[pr road n o]++(os.filter fun o=>!decide (n=o)).map (fun o=>pr road n o) by simp];refine (bf (s:=[qp l,some (.ref 0),qp road,qi (n:Int),qi (o:Int)]) (L2:=[qp l,some (.ref 0),qp road,qi (n:Int),qi (o:Int)]) (k:=[.lst ((a++[pr road n o]).map .p)]) rfl ?_).trans e;have z:¬(n:Int)=(o:Int):=by lia
   have x:a.length≤1000000:=by lia
   rw [<- cm];simp [dN,h,z,c_,x,pr]
theorem Kx (j:3≤n) (d:∀f ∈ h,d6 m f) (l:h.length≤4) (r w:P) (y:e_ road):∀(k:List Nat) (x:List P) (v e:Option D),x.length+16 * k.length≤50000->∃q s,aO (ag 3) (il (Ph n) (Ph (n-1))) (bG k) [qp (.tup [.lst h,r,w]),some (.ref 0),qp road,v,e] [.lst (x.map .p)] =
   some (.nx,[qp (.tup [.lst h,r,w]),some (.ref 0),qp road,q,s],[.lst ((x++k.flatMap fun t=>((bX (ar h) (rB road)).filter fun o=>!decide (t=o)).map fun o=>pr road t o).map .p)])
 | [],x,v,e,_=>⟨v,e,by simp [bG,aO]⟩
 | i::k,x,v,e,u=>by simp only [bc] at u;have K:(bX (ar h) (rB road)).length≤16:=aM (dL _ _) (by unfold ar;rw [b8];exact jt d l);obtain⟨s,g⟩:=JV (Ph n) (Ph (n-1)) (.tup [.lst h,r,w]) road i (bX (ar h) (rB road)) x e (by lia);have B:=qk i road (bX (ar h) (rB road));obtain⟨q,p,S⟩:=Kx j d l r w y k (x++((bX (ar h) (rB road)).filter fun o=>!decide (i=o)).map fun o=>pr road i o) (qi (i:Int)) s (by rw [List.length_append];lia);refine⟨q,p,?_⟩;rw [g7,<- List.append_assoc];refine (bf (s:=[qp (.tup [.lst h,r,w]),some (.ref 0),qp road,qi (i:Int),e]) rfl ?_).trans S;obtain⟨a,b,C,c,z,H,E,G,A,_,_,rfl⟩:=y;have F:=pk j d l r w b;simp only [rB] at g;show b7 _ _ _ _ _=_;simp only [bC];rw [show hG (af (pureOf (Ph n "_law_crew")) (v2 (vv 0) (ab al (vv 2) (vi 1)))) [qp (.tup [.lst h,r,w]),some (.ref 0),qp (.tup [.str a,.str b,.str C,.int c,.bl z,.bl H]),qi (i:Int),e] [.lst (x.map .p)]=some (bG (bX (ar h) b),[.lst (x.map .p)]) by simp [F,bG]];exact g
theorem Kw (H:3≤n) (j:∀f ∈ x,d6 m f) (l:x.length≤4) (p w:P):∀(o:List P) (e:List P) (y q k:Option D),(∀r ∈ o,e_ r)->e.length+256 * o.length≤10000->∃S s t,aO (ag 2) (ik (Ph n) (Ph (n-1))) o [qp (.tup [.lst x,p,w]),some (.ref 0),y,q,k] [.lst (e.map .p)] =
   some (.nx,[qp (.tup [.lst x,p,w]),some (.ref 0),S,s,t],[.lst ((e++a6 (ar x) o).map .p)])
 | [],e,y,q,k,_,_=>⟨y,q,k,by simp [a6,aO]⟩
 | road::o,e,y,q,k,K,u=>by
  simp only [bc] at u;have N:(ar x).length≤16:=by unfold ar;rw [b8];exact jt j l
  have G:(bX (ar x) (rA road)).length≤16:=aM (dL _ _) N;have z:(bX (ar x) (rB road)).length≤16:=aM (dL _ _) N;have v:=K road List.mem_cons_self;obtain⟨s,t,F⟩:=Kx H j l p w v (bX (ar x) (rA road)) e q k (by lia);have J:(tW (ar x) road).length≤256:=by have:=qu (ar x) road _ z (bX (ar x) (rA road));unfold tW;lia
  obtain⟨d,g,i,C⟩:=Kw H j l p w o (e++tW (ar x) road) (qp road) s t (fun r h=>K r (aY _ h)) (by rw [List.length_append];lia);refine⟨d,g,i,?_⟩;rw [show a6 (ar x) (road::o)=tW (ar x) road++a6 (ar x) o by simp [a6],<- List.append_assoc];refine (bf (s:=[qp (.tup [.lst x,p,w]),some (.ref 0),qp road,q,k]) rfl ?_).trans C;obtain⟨a,b,L,c,A,B,M,O,I,_,_,rfl⟩:=v;have E:=pk H j l p w a;simp only [rA] at F;show b7 _ _ _ _ _=_;simp only [bC];rw [show hG (af (pureOf (Ph n "_law_crew")) (v2 (vv 0) (ab al (vv 2) (vi 0)))) [qp (.tup [.lst x,p,w]),some (.ref 0),qp (.tup [.str a,.str b,.str L,.int c,.bl A,.bl B]),q,k] [.lst (e.map .p)]=some (bG (bX (ar x) a),[.lst (e.map .p)]) by simp [E,bG]];exact F
theorem vK (x:4≤n) (h:Pln f r i):pureOf (Ph n "_law_pairs") [.tup [.lst f,.lst r,.lst i]]=some (.lst (a6 (ar f) r)):=by
 obtain⟨n,rfl⟩:=fR (n:=n) (by first | assumption | lia);have:=h.rl
 obtain⟨q,a,s,e⟩:=Kw (n:=n+1) (by lia) h.hf h.f0.2 (.lst r) (.lst i) r [] none none none h.hr (by simp;lia);rw [oD,ai];simp only [fu,gA,j3] at e;simp [jU,e]
end
theorem vl:∀s:List P,B8 (s.map .p)=some s
 | []=>rfl
 | x::s=>by simp [B8,vl s]
variable {p:Str->GF}{j:Str->GF}
theorem yv (V:∀c ∈ l,lS c) (u:l.length≤3) (d:Int) (S:aD) (F K A B C E:Option D) (q s n f m r o H:Option D) :
  ∃(Q:List P) (w y:Option D),CellsOk l Q/\aO (aI [ag 8,ag 9]) (cP p j) (aR 0 l) [F,K,A,B,C,E,qi d,some (.ref S.length),o,H,q,s,n,f,m,r] (S++[.lst []])=some (.nx,[F,K,A,B,C,E,qi d,some (.ref S.length),w,y,q,s,n,f,m,r],S++[.lst (Q.map .p)]):=by
 obtain⟨Y,M,e,t,w,y,J,O,rfl,rfl⟩:=bg (g:=aI [ag 8,ag 9]) (b:=cP p j) (Inv:=fun i L M=>∃(t:List P) (o H:Option D),t.length=i/\(∀c ∈ t,∃i:Int,i.natAbs≤999/\c=.int i)/\L=[F,K,A,B,C,E,qi d,some (.ref S.length),o,H,q,s,n,f,m,r]/\M=S++[.lst (t.map .p)]) (s:=aR 0 l) (k:=0) (L:=[F,K,A,B,C,E,qi d,some (.ref S.length),o,H,q,s,n,f,m,r]) (S:=S++[.lst []]) (fun i v L M W U=>by
  obtain⟨c,G,rfl⟩:=dg W;have hi:=aW G;obtain⟨x,lo,a,N,_,Z,b2,b3,b4,rfl⟩:=V c (bF G);obtain⟨t,o,H,J,O,rfl,rfl⟩:=U;obtain⟨z,X,T⟩:∃z:Int,(0 < z/\z < 1152921504606846976)/\L2.atI [P.int 8,.int 32,.int 128] (i:Int)=some (.int z):=by
   have:i=0\/i=1\/i=2:=by lia
   rcases this with rfl | rfl | rfl
   .exact⟨8,by decide,by simp⟩
   .exact⟨32,by decide,by simp⟩
   .exact⟨128,by decide,by simp⟩
  have R:0 < a-lo+1:=by lia
  have m0:0≤d / z % (a-lo+1):=dn _ (by lia);have m1:d / z % (a-lo+1) < a-lo+1:=dW _ R;have I:t.length≤1000000:=by lia
  refine⟨_,[F,K,A,B,C,E,qi d,some (.ref S.length),qi (i:Int),qp (.tup [.str x,.int lo,.int a,.int N]),q,s,n,f,m,r],S++[.lst ((t++[P.int (lo+d / z % (a-lo+1))]).map .p)],rfl,?_,_,_,_,by simp [J],cB O ⟨_,by lia,rfl⟩,rfl,rfl⟩;rw [<- cm];simp [cP,T,X,R,c_,I]) ⟨[],o,H,rfl,fun _ h=>(by cases h),rfl,rfl⟩
 rw [cf,eF] at J;exact⟨t,w,y,⟨J,O⟩,e⟩
theorem AU (m:Nat) (T:m≤2) (l:List P) (d:Int) (S:aD) (t u y o H F:Option D) (A q x a s n r:Option D) :
  ∃(G:List P) (c:Option D),G.length=m/\(∀w ∈ G,ow w)/\aO (ag 8) (cO p j) (intsFrom 0 m) [t,u,y,ql l,o,H,qi d,F,r,A,some (.ref S.length),q,x,a,s,n] (S++[.lst []])=some (.nx,[t,u,y,ql l,o,H,qi d,F,c,A,some (.ref S.length),q,x,a,s,n],S++[.lst (G.map .p)]):=by
 obtain⟨Q,C,e,f,c,B,E,rfl,rfl⟩:=bg (g:=ag 8) (b:=cO p j) (Inv:=fun i L C=>∃(f:List P) (r:Option D),f.length=i/\(∀w ∈ f,ow w)/\L=[t,u,y,ql l,o,H,qi d,F,r,A,some (.ref S.length),q,x,a,s,n]/\C=S++[.lst (f.map .p)]) (s:=intsFrom 0 m) (k:=0) (L:=[t,u,y,ql l,o,H,qi d,F,r,A,some (.ref S.length),q,x,a,s,n]) (S:=S++[.lst []]) (fun i v L C N J=>by
  obtain⟨rfl,R⟩:=ints_get N;obtain⟨f,r,B,E,rfl,rfl⟩:=J;simp only [c8];obtain⟨z,O,I⟩:∃z:Int,(0 < z/\z < 1152921504606846976)/\L2.atI [P.int 512,.int 4096] (i:Int)=some (.int z):=by
   have:i=0\/i=1:=by lia
   rcases this with rfl | rfl
   .exact⟨512,by decide,by simp⟩
   .exact⟨4096,by decide,by simp⟩
  have M:(0:Int) < (l.length:Int)+1:=by lia
  have K:f.length≤1000000:=by lia
  refine⟨_,[t,u,y,ql l,o,H,qi d,F,qi (i:Int),A,some (.ref S.length),q,x,a,s,n],S++[.lst ((f++[P.int (d / z % ((l.length:Int)+1)-1)]).map .p)],rfl,?_,_,_,by simp [B],cB E ⟨_,rfl⟩,rfl,rfl⟩;rw [<- cm];simp [cO,I,O,M,b_,cE,c_,K]) ⟨[],r,rfl,fun _ h=>(by cases h),rfl,rfl⟩
 rw [bH,eF] at B;exact⟨f,c,B,E,e⟩
theorem AV (m:Nat) (hm:m≤3) (d:Int) (S:aD) (o H F K A B C E x s n f:Option D) (w q:Option D) :
  ∃(Q:List P) (t c:Option D),Q.length=m/\(∀l ∈ Q,lR l)/\aO (ag 8) (cM p j) (intsFrom 0 m) [o,H,F,K,A,B,qi d,C,w,E,x,s,n,f,some (.ref S.length),q] (S++[.lst []])=some (.nx,[o,H,F,K,A,B,qi d,C,t,E,x,s,n,f,some (.ref S.length),c],S++[.lst (Q.map .p)]):=by
 obtain⟨L',J,e,r,t,c,I,N,rfl,rfl⟩:=bg (g:=ag 8) (b:=cM p j) (Inv:=fun i L J=>∃(r:List P) (w q:Option D),r.length=i/\(∀l ∈ r,lR l)/\L=[o,H,F,K,A,B,qi d,C,w,E,x,s,n,f,some (.ref S.length),q]/\J=S++[.lst (r.map .p)]) (s:=intsFrom 0 m) (k:=0) (L:=[o,H,F,K,A,B,qi d,C,w,E,x,s,n,f,some (.ref S.length),q]) (S:=S++[.lst []]) (fun i v L J Z W=>by
  obtain⟨rfl,hi⟩:=ints_get Z;obtain⟨r,w,q,I,N,rfl,rfl⟩:=W;simp only [c8];obtain⟨z,y,hz,hy,V,U⟩:∃z y:Int,(0 < z/\z < 1152921504606846976)/\(0 < y/\y < 1152921504606846976)/\L2.atI [P.int 8,.int 800,.int 80000] (i:Int)=some (.int z)/\L2.atI [P.int 4,.int 400,.int 40000] (i:Int)=some (.int y):=by
   have:i=0\/i=1\/i=2:=by lia
   rcases this with rfl | rfl | rfl
   .exact⟨8,4,by decide,by decide,by simp,by simp⟩
   .exact⟨800,400,by decide,by decide,by simp,by simp⟩
   .exact⟨80000,40000,by decide,by decide,by simp,by simp⟩
  obtain⟨u,X,Y,T⟩:∃u:Int,-998≤u/\u≤997/\L2.atI [P.int 0,.int 997,.int 0,.int (-998)] (d / 8000000 % 4)=some (.int u):=by
   have h:d / 8000000 % 4=0\/d / 8000000 % 4=1\/d / 8000000 % 4=2\/d / 8000000 % 4=3:=by lia
   rcases h with h | h | h | h <;> rw [h] <;> simp
  obtain⟨mk,O,M⟩:=nv (a:="ma") (b:="mb") (d / y);have R:PyData.strOk mk=true:=by rcases O with rfl | rfl <;> simp
  have m0:0≤d / z % 4:=dn _ (by decide);have m1:d / z % 4 < 4:=dW _ (by decide);have G:r.length≤1000000:=by lia
  refine⟨_,[o,H,F,K,A,B,qi d,C,qi (i:Int),E,x,s,n,f,some (.ref S.length),qi (d / z % 4-1+u)],S++[.lst ((r++[P.tup [.str mk,.int (d / z % 4-1+u)]]).map .p)],rfl,?_,_,_,_,by simp [I],cB N ⟨mk,_,R,by lia,rfl⟩,rfl,rfl⟩;rw [<- cm];simp [cM,V,U,hz,hy,T,M,c_,G]) ⟨[],w,q,rfl,fun _ h=>(by cases h),rfl,rfl⟩
 rw [bH,eF] at I;exact⟨r,t,c,I,N,e⟩
end My
namespace My
open PySem L2 Ev
variable {B:BD}{n:Nat}
theorem yu (hP:Pln B.fams B.roads B.wishes) (hn:2≤n) (F:List Int) (Q R O N C G z q t u j y:Option D) :
  ∃(hs:List P) (S':aD) (q4' q5' q6' q7' q8' q9' M:Option D),hs.length=(av B.fams).length/\(∀(k:Nat) f x,(av B.fams)[k]? = some f->hs[k]? = some x->u5 f x)/\S'[0]? = some (.lst (hs.map .p)) /\
   aO (aI [ag 4,ag 5]) (cN (Ph n) (Ph (n-1))) (aR 0 (av B.fams)) [qp (cZ F),qp (aB B),some (.ref 0),ql (av B.fams),Q,R,O,N,C,G,z,q,t,u,j,y] [.lst []]=some (.nx,[qp (cZ F),qp (aB B),some (.ref 0),ql (av B.fams),q4',q5',q6',q7',q8',q9',M,q,t,u,j,y],S'):=by
 have h4:=gx hP;obtain⟨L',S',e,I,q4',q5',q6',q7',q8',q9',M,U,h2,V,rfl⟩:=bg (g:=aI [ag 4,ag 5]) (b:=cN (Ph n) (Ph (n-1))) (Inv:=fun i L S=>∃(I:List P) (Q R O N C G z:Option D),I.length=i/\(∀(k:Nat) x,I[k]? = some x->∀f,(av B.fams)[k]? = some f->u5 f x)/\S[0]? = some (.lst (I.map .p))/\L=[qp (cZ F),qp (aB B),some (.ref 0),ql (av B.fams),Q,R,O,N,C,G,z,q,t,u,j,y]) (s:=aR 0 (av B.fams)) (k:=0) (L:=[qp (cZ F),qp (aB B),some (.ref 0),ql (av B.fams),Q,R,O,N,C,G,z,q,t,u,j,y]) (S:=[.lst []]) (fun i v L S hv hI=>by
  obtain⟨f,Y,rfl⟩:=dg hv;have hi:=aW Y;obtain⟨A,a,o,l,w,s,W,rfl⟩:=ib hP.hf (bF Y);obtain⟨I,Q,R,O,N,C,G,z,U,h2,V,rfl⟩:=hI;obtain⟨c,d,hd,e1,e2⟩:=gY (n:=n) (by lia) F (k:=29+(i:Int)) (p:=31) (by lia) (by lia) (by lia);obtain⟨m,J,K,hcs,e3⟩:=yv (p:=Ph n) (j:=Ph (n-1)) W.hce.1 W.cl d S (qp (cZ F)) (qp (aB B)) (some (.ref 0)) (ql (av B.fams)) (qi (i:Int)) (qp (eK A a o l w s)) z q t u j y C G;obtain⟨H,E,hw1,hw2,e4⟩:=AU (p:=Ph n) (j:=Ph (n-1)) w.length W.wl (av B.fams) d (S++[.lst (m.map .p)]) (qp (cZ F)) (qp (aB B)) (some (.ref 0)) (qi (i:Int)) (qp (eK A a o l w s)) (some (.ref S.length)) K q t u j y J;have hl0:0 < S.length:=aW V;have hr0:=len_pos W.r0;have hrp:(0:Int) < (o.length:Int):=by lia
  have r0:0≤d % (o.length:Int):=dn _ (by lia);have r1:d % (o.length:Int) < (o.length:Int):=dW _ hrp;obtain⟨r,hr⟩:∃r:Nat,d % (o.length:Int)=(r:Int):=⟨(d % (o.length:Int)).toNat,by lia⟩;have hwn:w.length < 1000000:=by have:=W.wl;lia
  have t1:toP 9 (.ref S.length) (S++[.lst (m.map .p)]++[.lst (H.map .p)])=some (.lst m,(S++[SO.lst (m.map .p)]++[SO.lst (H.map .p)]).set S.length (.fz (.lst m))):=ee (by simp);have t2:toP 9 (.ref (S++[SO.lst (m.map .p)]).length) ((S++[SO.lst (m.map .p)]++[SO.lst (H.map .p)]).set S.length (.fz (.lst m)))=some (.lst H,((S++[SO.lst (m.map .p)]++[SO.lst (H.map .p)]).set S.length (.fz (.lst m))).set (S++[SO.lst (m.map .p)]).length (.fz (.lst H))):=ee (by rw [a7 (by simp)];exact gu _ _);generalize hT:((S++[SO.lst (m.map .p)]++[SO.lst (H.map .p)]).set S.length (.fz (.lst m))).set (S++[SO.lst (m.map .p)]).length (.fz (.lst H))=T at t2;have X:T[0]? = some (.lst (I.map .p)):=by rw [<- hT,a7 (by simp),a7 (by lia),List.getElem?_append_left (by simp),List.getElem?_append_left hl0];exact V
  have hS0:(S++[SO.lst (m.map .p)]++[SO.lst (H.map .p)])[0]? = some (.lst (I.map .p)):=by rw [List.getElem?_append_left (by simp),List.getElem?_append_left hl0];exact V
  refine⟨[qp (cZ F),qp (aB B),some (.ref 0),ql (av B.fams),qi (i:Int),qp (eK A a o l w s),O,N,C,G,z,q,t,u,j,y],[qp (cZ F),qp (aB B),some (.ref 0),ql (av B.fams),qi (i:Int),qp (eK A a o l w s),qi d,some (.ref S.length),E,K,some (.ref (S++[SO.lst (m.map .p)]).length),q,t,u,j,y],T.set 0 (.lst ((I++[P.tup [.int (r:Int),.tup m,.tup H]]).map .p)),rfl,?_,I++[P.tup [.int (r:Int),.tup m,.tup H]],_,_,_,_,_,_,_,by simp [U],sQ h2 (fun f Z=>?_),gF X,rfl⟩
  .unfold cN;rw [aj (e:=[qp (cZ F),qp (aB B),some (.ref 0),ql (av B.fams),qi (i:Int),qp (eK A a o l w s),qi d,N,C,G,z,q,t,u,j,y]) (b:=S) (by simp [e1,e2])];rw [aj (e:=[qp (cZ F),qp (aB B),some (.ref 0),ql (av B.fams),qi (i:Int),qp (eK A a o l w s),qi d,some (.ref S.length),C,G,z,q,t,u,j,y]) (b:=S++[.lst []]) (by simp)];rw [aj (e:=[qp (cZ F),qp (aB B),some (.ref 0),ql (av B.fams),qi (i:Int),qp (eK A a o l w s),qi d,some (.ref S.length),J,K,z,q,t,u,j,y]) (b:=S++[.lst (m.map .p)]) (by
    rw [bC,mL,show (ab al (vv 5) (vi 3)) [qp (cZ F),qp (aB B),some (.ref 0),ql (av B.fams),qi (i:Int),qp (eK A a o l w s),qi d,some (.ref S.length),C,G,z,q,t,u,j,y] (S++[.lst []])=some (.lst l,S++[.lst []]) by simp [EG]];exact e3)]
   rw [aj (e:=[qp (cZ F),qp (aB B),some (.ref 0),ql (av B.fams),qi (i:Int),qp (eK A a o l w s),qi d,some (.ref S.length),J,K,some (.ref (S++[SO.lst (m.map .p)]).length),q,t,u,j,y]) (b:=S++[.lst (m.map .p)]++[.lst []]) (by simp)];rw [aj (e:=[qp (cZ F),qp (aB B),some (.ref 0),ql (av B.fams),qi (i:Int),qp (eK A a o l w s),qi d,some (.ref S.length),E,K,some (.ref (S++[SO.lst (m.map .p)]).length),q,t,u,j,y]) (b:=S++[.lst (m.map .p)]++[.lst (H.map .p)]) (by rw [bC,show hJ (dB (eV (ab al (vv 5) (vi 4)))) [qp (cZ F),qp (aB B),some (.ref 0),ql (av B.fams),qi (i:Int),qp (eK A a o l w s),qi d,some (.ref S.length),J,K,some (.ref (S++[SO.lst (m.map .p)]).length),q,t,u,j,y] (S++[.lst (m.map .p)]++[.lst []])=some (intsFrom 0 w.length,S++[.lst (m.map .p)]++[.lst []]) by simp [IE,b_,cE,hwn]];exact e4)]
   refine iU (k:=0) (w:=I) (e:=T) rfl hS0 ?_ X (by lia);have m1:(ab aV (vv 6) (dB (eV (ab al (vv 5) (vi 2))))) [qp (cZ F),qp (aB B),some (.ref 0),ql (av B.fams),qi (i:Int),qp (eK A a o l w s),qi d,some (.ref S.length),E,K,some (.ref (S++[SO.lst (m.map .p)]).length),q,t,u,j,y] (S++[SO.lst (m.map .p)]++[SO.lst (H.map .p)])=some (.int (r:Int),(S++[SO.lst (m.map .p)]++[SO.lst (H.map .p)])):=by simp [J9,b_,cE,hr0,hr]
   have m2:(af bD (v1 (vv 7))) [qp (cZ F),qp (aB B),some (.ref 0),ql (av B.fams),qi (i:Int),qp (eK A a o l w s),qi d,some (.ref S.length),E,K,some (.ref (S++[SO.lst (m.map .p)]).length),q,t,u,j,y] (S++[SO.lst (m.map .p)]++[SO.lst (H.map .p)])=some (.tup m,(S++[SO.lst (m.map .p)]++[SO.lst (H.map .p)]).set S.length (.fz (.lst m))):=by show aF (aF (toP 9 (.ref S.length) (S++[SO.lst (m.map .p)]++[SO.lst (H.map .p)])) _) _=_;rw [t1];rfl
   have m3:(af bD (v1 (vv 10))) [qp (cZ F),qp (aB B),some (.ref 0),ql (av B.fams),qi (i:Int),qp (eK A a o l w s),qi d,some (.ref S.length),E,K,some (.ref (S++[SO.lst (m.map .p)]).length),q,t,u,j,y] ((S++[SO.lst (m.map .p)]++[SO.lst (H.map .p)]).set S.length (.fz (.lst m)))=some (.tup H,T):=by show aF (aF (toP 9 (.ref (S++[SO.lst (m.map .p)]).length) ((S++[SO.lst (m.map .p)]++[SO.lst (H.map .p)]).set S.length (.fz (.lst m)))) _) _=_;rw [t2];rfl
   simp only [pe,AE,wC,m1,m2,m3,aw,x9];rfl
  .rw [U,eF,Y] at Z;cases Z;exact⟨A,a,o,l,w,s,rfl,r,m,H,rfl,by lia,hcs,hw1,hw2⟩) ⟨[],Q,R,O,N,C,G,z,rfl,fun k x h=>(by simp at h),rfl,rfl⟩
 rw [cf,eF] at U;exact⟨I,S',_,_,_,_,_,_,_,U,fun k f x Y hx=>h2 k x hx f Y,V,e⟩
theorem yt (hP:Pln B.fams B.roads B.wishes) (hn:2≤n) (w:List Int) (h0:S0[0]? = some x0) (hr:S0[r]? = some (.lst [])) (hr0:0 < r) (u j y z H F K s V M C E q f:Option D) :
  ∃(rds:List P) (W:aD) (Y Z O Q A R:Option D),bE B rds/\W[0]? = some x0/\W[r]? = some (.lst (rds.map .p)) /\
   aO (aI [ag 12,ag 13]) (cL (Ph n) (Ph (n-1))) (aR 0 B.PR) [qp (cZ w),u,j,y,z,H,V,F,M,K,s,some (.ref r),C,E,q,f] S0=some (.nx,[qp (cZ w),u,j,y,z,H,Y,F,Z,K,s,some (.ref r),O,Q,A,R],W):=by
 have h4:=lH hP;obtain⟨L',W,e,I,Y,Z,O,Q,A,R,h1,h2,h3,h5,rfl⟩:=bg (g:=aI [ag 12,ag 13]) (b:=cL (Ph n) (Ph (n-1))) (Inv:=fun i L S=>∃(I:List P) (V M C E q f:Option D),I.length=i/\(∀r ∈ I,∃l,iW l/\r=.tup l)/\S[0]? = some x0/\S[r]? = some (.lst (I.map .p))/\L=[qp (cZ w),u,j,y,z,H,V,F,M,K,s,some (.ref r),C,E,q,f]) (s:=aR 0 B.PR) (k:=0) (L:=[qp (cZ w),u,j,y,z,H,V,F,M,K,s,some (.ref r),C,E,q,f]) (S:=S0) (fun i v L S hv hI=>by
  obtain⟨x,hx,rfl⟩:=dg hv;have hi:=aW hx;obtain⟨road,hro,a,b,rfl⟩:=rQ (bF hx);obtain⟨ra,rb,kd,c,d1,d2,_,_,hkd,hc1,hc2,rfl⟩:=hP.hr road hro;obtain⟨I,V,M,C,E,q,f,h1,h2,h3,h5,rfl⟩:=hI;obtain⟨c',d,hd,e1,e2⟩:=gY (n:=n) (by lia) w (k:=34+(i:Int) % 20) (p:=33+(i:Int) / 20) (by lia) (by lia) (by lia);have m0:0≤d % (c+1):=dn _ (by lia);have m1:d % (c+1) < c+1:=dW _ (by lia);have hcp:0 < c+1:=by lia
  obtain⟨m,hm⟩:∃m:Nat,d % (c+1)=(m:Int):=⟨(d % (c+1)).toNat,by lia⟩;obtain⟨l,G,t,hl1,hl2,e3⟩:=AV (p:=Ph n) (j:=Ph (n-1)) m (by lia) d S (qp (cZ w)) u j y z H F K s (some (.ref r)) (qi (i:Int)) (qp (pr (.tup [.str ra,.str rb,.str kd,.int c,.bl d1,.bl d2]) a b)) M f;have hrl:=aW h5;have X:iW l:=⟨by lia,hl2⟩;generalize hp:pr (.tup [.str ra,.str rb,.str kd,.int c,.bl d1,.bl d2]) a b=J at e3;have U:al J (.int 0)=some (.tup [.str ra,.str rb,.str kd,.int c,.bl d1,.bl d2]):=by rw [<- hp];simp [pr]
  have T0:∀(o:SO),(S++[o])[0]? = some x0/\(S++[o])[r]? = some (.lst (I.map .p)):=fun o=>⟨by rw [List.getElem?_append_left (by lia)];exact h3,by rw [List.getElem?_append_left hrl];exact h5⟩;have fin:∃(N:List P) (q:Option D) (T:aD),iW N/\T[0]? = some x0/\T[r]? = some (.lst (I.map .p)) /\
    ac (dY (bV (aA dC (eV (ab al (ab al (vv 13) (vi 0)) (vi 2))) (eV (vt "heap")))) (ak 14 (eV (oX (aa 14)))) ei) (bL (a_ (aa 11) (eV (af bD (v1 (vv 14)))))) [qp (cZ w),u,j,y,z,H,qi d,F,G,K,s,some (.ref r),qi (i:Int),qp J,some (.ref S.length),t] (S++[.lst (l.map .p)])=some (.nx,[qp (cZ w),u,j,y,z,H,qi d,F,G,K,s,some (.ref r),qi (i:Int),qp J,q,t],T.set r (.lst ((I++[P.tup N]).map .p))):=by
   by_cases hh:kd="heap"
   .obtain⟨N,hz,ez⟩:=o0 X;refine⟨N,ql N,S++[.lst (l.map .p)],hz,(T0 _).1,(T0 _).2,?_⟩;rw [aj (e:=[qp (cZ w),u,j,y,z,H,qi d,F,G,K,s,some (.ref r),qi (i:Int),qp J,ql N,t]) (b:=S++[.lst (l.map .p)]) (by simp [U,hh,wP,vl,ez])];exact iU rfl (T0 _).2 (by simp [bD]) (T0 _).2 (by lia)
   .have t1:toP 9 (.ref S.length) (S++[.lst (l.map .p)])=some (.lst l,(S++[SO.lst (l.map .p)]).set S.length (.fz (.lst l))):=ee (by simp);have hT:((S++[SO.lst (l.map .p)]).set S.length (.fz (.lst l)))[r]? = some (.lst (I.map .p)):=by rw [a7 (by lia)];exact (T0 _).2
    refine⟨l,some (.ref S.length),(S++[SO.lst (l.map .p)]).set S.length (.fz (.lst l)),X,by rw [a7 (by lia)];exact (T0 _).1,hT,?_⟩;rw [aj (e:=[qp (cZ w),u,j,y,z,H,qi d,F,G,K,s,some (.ref r),qi (i:Int),qp J,some (.ref S.length),t]) (b:=S++[.lst (l.map .p)]) (by simp [U,hh])];refine iU rfl (T0 _).2 ?_ hT (by lia);show aF (aF (aF (toP 9 (.ref S.length) (S++[SO.lst (l.map .p)])) _) _) _=_;rw [t1];rfl
  obtain⟨N,A,T,hz,hT0,hTr,e4⟩:=fin;refine⟨[qp (cZ w),u,j,y,z,H,V,F,M,K,s,some (.ref r),qi (i:Int),qp J,q,f],[qp (cZ w),u,j,y,z,H,qi d,F,G,K,s,some (.ref r),qi (i:Int),qp J,A,t],T.set r (.lst ((I++[P.tup N]).map .p)),rfl,?_,I++[P.tup N],_,_,_,_,_,_,by simp [h1],cB h2 ⟨N,hz,rfl⟩,by rw [a7 (by lia)];exact hT0,gF hTr,rfl⟩;unfold cL;rw [aj (e:=[qp (cZ w),u,j,y,z,H,qi d,F,M,K,s,some (.ref r),qi (i:Int),qp J,q,f]) (b:=S) (by simp [e1,e2])];rw [aj (e:=[qp (cZ w),u,j,y,z,H,qi d,F,M,K,s,some (.ref r),qi (i:Int),qp J,some (.ref S.length),f]) (b:=S++[.lst []]) (by simp)];rw [aj (e:=[qp (cZ w),u,j,y,z,H,qi d,F,G,K,s,some (.ref r),qi (i:Int),qp J,some (.ref S.length),t]) (b:=S++[.lst (l.map .p)]) (by
   have hm3:m < 1000000:=by lia
   rw [bC,vV];simp [U,hcp,hm,hm3,e3])]
  exact e4) ⟨[],V,M,C,E,q,f,rfl,fun _ h=>(by cases h),h0,hr,rfl⟩
 rw [cf,eF] at h1;exact⟨I,W,_,_,_,_,_,_,⟨h1,h2⟩,h3,h5,e⟩
theorem C8 (k:Pln B.fams B.roads B.wishes) (L:5≤n) (a:List Int):∃st,xQ B st/\pureOf (Ph n "_law_standing") [cZ a,aB B]=some st:=by
 obtain⟨n,rfl⟩:=fR (n:=n) (by first | assumption | lia);obtain⟨e,h,m,t,p,v,w,u,q,z,y,b,g⟩:=yu k (n:=n+1) (by lia) a none none none none none none none none none none none none;obtain⟨s,f,E,G,K,A,C,D,o,H,F,i⟩:=yt k (n:=n+1) (by lia) a (r:=h.length) (S0:=h++[.lst []]) (x0:=.lst (e.map .p)) (by rw [List.getElem?_append_left (aW b)];exact b) (gu _ _) (aW b) (qp (aB B)) (some (.ref 0)) (ql (av B.fams)) m t v u q p w none none none none;refine⟨.tup [.tup e,.tup s],⟨e,s,rfl,z,y,o⟩,?_⟩;have j:=vN (n:=n+1) (by lia) k.hf k.f0.2 (.lst B.roads) (.lst B.wishes);have l:=vK (n:=n+1) (by lia) k;have c:(0:Nat)≠h.length:=by have:=aW b;lia
 have I:toP 9 (.ref 0) f=some (.lst e,f.set 0 (.fz (.lst e))):=ee H;have J:toP 9 (.ref h.length) (f.set 0 (.fz (.lst e)))=some (.lst s,(f.set 0 (.fz (.lst e))).set h.length (.fz (.lst s))):=ee (by rw [a7 c];exact F);simp only [j3] at g i;rw [lu,ai];show (match fB _ _ [qp (cZ a),qp (aB B),none,none,none,none,none,none,none,none,none,none,none,none,none,none] [] with | some (.rt d,_,S)=>(toP 9 d S).map (fun x=>x.fst) | some (.nx,_,_)=>some .non | _=>none)=some (P.tup [.tup e,.tup s]);unfold fB;rw [aj (e:=[qp (cZ a),qp (aB B),some (.ref 0),none,none,none,none,none,none,none,none,none,none,none,none,none]) (b:=[.lst []]) (by simp)];rw [aj (e:=[qp (cZ a),qp (aB B),some (.ref 0),ql (av B.fams),none,none,none,none,none,none,none,none,none,none,none,none]) (b:=[.lst []]) (by simp [j])];rw [aj (by rw [bC,show gO (vv 3) [qp (cZ a),qp (aB B),some (.ref 0),ql (av B.fams),none,none,none,none,none,none,none,none,none,none,none,none] [.lst []]=some (aR 0 (av B.fams),[.lst []]) by simp];exact g)];rw [aj (e:=[qp (cZ a),qp (aB B),some (.ref 0),ql (av B.fams),m,t,p,v,w,u,q,some (.ref h.length),none,none,none,none]) (b:=h++[.lst []]) (by simp)];rw [aj (by rw [bC,show gO (af (pureOf (Ph (n+1) "_law_pairs")) (v1 (vv 1))) [qp (cZ a),qp (aB B),some (.ref 0),ql (av B.fams),m,t,p,v,w,u,q,some (.ref h.length),none,none,none,none] (h++[.lst []])=some (aR 0 B.PR,h++[.lst []]) by simp [l,BD.PR,BD.N]];exact i)];simp [I,J,bD]
theorem Hg (p:h->Bool) (g:h->a) (s:List h):s.flatMap (fun x=>if p x=true then [g x] else [])=(s.filter p).map g:=by
 induction s with
 | nil=>rfl
 | cons x r i=>rw [g7,i,List.filter_cons];cases p x <;> rfl
theorem Em {s:List P}{i:Nat}{l:P} (h:s[i]? = some l):s.take i++[l,l]++s.drop (i+1)=s.take (i+1)++s.drop i:=by have x:=aW h;rw [List.take_add_one,h,uc x,show s[i]=l from Option.some.inj ((cR x).symm.trans h)];simp
noncomputable def Gd (h r:List P) (w:Str) (road:P) (k:Nat) (a c:P) (l:List P):P->List P
 | .tup [.int z,_]=>if (hR w road l && (decide (kdOf road="row") || decide (gP l (l[z.toNat]?.getD .non)=some z.toNat)))=true then [gW h r w k a c l z.toNat] else []
 | _=>[]
theorem AX (h r:List P) (w:Str) (road:P) (k:Nat) (a c:P) (l:List P):(aR 0 l).flatMap (Gd h r w road k a c l)=if hR w road l=true then (sd (kdOf road) l).map (gW h r w k a c l) else []:=by
 rw [zO,pY];unfold Gd sd;simp only [Int.toNat_natCast];cases hR w road l with
 | false=>simp
 | true=>simp only [Bool.true_and];rw [Hg];rfl
theorem Dh (M L:Str->GF) {w:Str} (hw:w="lose"\/w="double") {road:P} (E:e_ road) {s:List P} (y:iW s) {i:Nat}{l:P} (H:s[i]? = some l) (x e n f:Option D) (a c:Nat) (G m q:Option D) (S:aD) (g:ES) :
  ac (ak 9 (eV (ab aq (gb (vv 6) dw (de (vv 7))) (gb (vv 6) (de (ab aq (vv 7) (vi 1))) dw))))
  (ac (dY (bV (aA dC (aa 2) (eV (vt "double")))) (ak 9 (eV (ab aq (ab aq (gb (vv 6) dw (de (vv 7))) (az (v2 (vv 8) (vv 8)))) (gb (vv 6) (de (ab aq (vv 7) (vi 1))) dw)))) ei)
  (ac (ak 10 (eV (ab al (ab al (vv 5) (vi 0)) (vi 4))))
  (ac (dY (bV (aA dC (aa 2) (eV (vt "double")))) (ak 10 (eV (vB (fP (bV (ab al (ab al (vv 5) (vi 0)) (vi 5))) (bV (ab Ex (dB (aa 9)) (ab al (ab al (vv 5) (vi 0)) (vi 3)))))))) ei) g))) [x,e,qs w,n,f,qp (pr road a c),qp (.tup s),qi (i:Int),qp l,G,m,q] S
  = g [x,e,qs w,n,f,qp (pr road a c),qp (.tup s),qi (i:Int),qp l,qp (.tup (sU w s i)),qp (.bl (hR w road s)),q] S:=by
 have I:=y.1;obtain⟨r,b,k,p,d,h,_,_,_,_,_,rfl⟩:=E;have J:=aW H;have F:L2.atI [P.str r,.str b,.str k,.int p,.bl d,.bl h] 3=some (.int p):=aU (by decide) rfl;have o:L2.atI [P.str r,.str b,.str k,.int p,.bl d,.bl h] 4=some (.bl d):=aU (by decide) rfl;have K:L2.atI [P.str r,.str b,.str k,.int p,.bl d,.bl h] 5=some (.bl h):=aU (by decide) rfl;have A:=cW (xs:=s.take i) (c:=s.drop (i+1)) (by simp;lia);have B:=cW (xs:=s.take i) (c:=[l,l]) (by simp;lia);have u:=cW (xs:=s.take i++[l,l]) (c:=s.drop (i+1)) (by simp;lia);rw [Em H] at u;rw [aj (e:=[x,e,qs w,n,f,qp (pr (.tup [.str r,.str b,.str k,.int p,.bl d,.bl h]) a c),qp (.tup s),qi (i:Int),qp l,qp (.tup (s.take i++s.drop (i+1))),m,q]) (b:=S) (by simp [kc,ig,A])];rcases hw with rfl | rfl
 .have j:sU "lose" s i=s.take i++s.drop (i+1):=by unfold sU;rw [if_pos rfl,u7]
  rw [j];have v:¬("lose":Str)="double":=by decide +kernel
  rw [aj (e:=[x,e,qs "lose",n,f,qp (pr (.tup [.str r,.str b,.str k,.int p,.bl d,.bl h]) a c),qp (.tup s),qi (i:Int),qp l,qp (.tup (s.take i++s.drop (i+1))),m,q]) (b:=S) (by simp [v])];rw [aj (e:=[x,e,qs "lose",n,f,qp (pr (.tup [.str r,.str b,.str k,.int p,.bl d,.bl h]) a c),qp (.tup s),qi (i:Int),qp l,qp (.tup (s.take i++s.drop (i+1))),qp (.bl d),q]) (b:=S) (by simp [pr,o])];rw [aj (e:=[x,e,qs "lose",n,f,qp (pr (.tup [.str r,.str b,.str k,.int p,.bl d,.bl h]) a c),qp (.tup s),qi (i:Int),qp l,qp (.tup (s.take i++s.drop (i+1))),qp (.bl d),q]) (b:=S) (by simp [v])];rfl
 .have v:¬("double":Str)="lose":=by decide +kernel
  have j:sU "double" s i=s.take (i+1)++s.drop i:=by unfold sU;rw [if_neg v]
  have C:hR "double" (.tup [.str r,.str b,.str k,.int p,.bl d,.bl h]) s=(h && decide ((s.length:Int) < p)):=by unfold hR;dsimp only;rw [if_neg v]
  have t:(s.take (i+1)++s.drop i).length=s.length+1:=by simp;lia
  rw [j,C];generalize s.take (i+1)++s.drop i=z at u t;rw [aj (e:=[x,e,qs "double",n,f,qp (pr (.tup [.str r,.str b,.str k,.int p,.bl d,.bl h]) a c),qp (.tup s),qi (i:Int),qp l,qp (.tup z),m,q]) (b:=S) (by simp [kc,ig,B];simp [u])];rw [aj (e:=[x,e,qs "double",n,f,qp (pr (.tup [.str r,.str b,.str k,.int p,.bl d,.bl h]) a c),qp (.tup s),qi (i:Int),qp l,qp (.tup z),qp (.bl d),q]) (b:=S) (by simp [pr,o])];have hd:decide ((z.length:Int)≤p)=decide ((s.length:Int) < p):=pN.mpr (by rw [t];lia);rw [aj (e:=[x,e,qs "double",n,f,qp (pr (.tup [.str r,.str b,.str k,.int p,.bl d,.bl h]) a c),qp (.tup s),qi (i:Int),qp l,qp (.tup z),qp (.bl (h && decide ((s.length:Int) < p))),q]) (b:=S) (by cases h <;> simp [pr,K,F,b_,cE,<- hd])]
theorem B' {B:BD} (hP:Pln B.fams B.roads B.wishes) {n:Nat} (hn:5≤n) {w:Str} (hw:w="lose"\/w="double") {H b:List P} (hS:StL B H b):pureOf (Ph n "_law_road_deeds") [aB B,.tup [.tup H,.tup b],.str w]=some (.lst (cH B H b w)):=by
 obtain⟨n,rfl⟩:=fR (n:=n) (by first | assumption | lia);have hpl:=lH hP;have hrl:=hS.hr.1;let u:Option D->Option D->Option D->Option D->Option D->Option D->Option D->Option D->Lc:=fun q4 q5 R C E F t s=>[qp (aB B),qp (.tup [.tup H,.tup b]),qs w,some (.ref 0),q4,q5,R,C,E,F,t,s]
 obtain⟨_,h3⟩:=eJ (i:=Unit) (f:=Hh H b w) (g:=aI [ag 4,ag 5]) (b:=dt (Ph (n+1)) (Ph n)) (Sp:=fun _ S=>S.length=1) (r:=fun _=>0) (c:=3) (M:=10000) (s:=aR 0 B.PR) (p:=fun _ L=>∃q4 q5 R C E F t s,L=u q4 q5 R C E F t s) (fun x hx=>by
  obtain⟨k,hk,hxe⟩:=jf.mp hx;obtain⟨p,hp,rfl⟩:=dg (s:=B.PR) (i:=k) (v:=x) (by rw [cR hk,hxe]);obtain⟨road,m,a,c,X,hro,rfl,O,hkr,hkl,Q,I,W,hF⟩:=uN hP hS w hp;have hls3:=O.1;have hul:=vk (k:=X) (x:=m);obtain⟨_,k3⟩:=eJ (i:=Unit) (f:=Gd H b w road k (.int (a:Int)) (.int (c:Int)) m) (g:=aI [ag 7,ag 8]) (b:=cw (Ph (n+1)) (Ph n)) (Sp:=fun _ S=>S.length=1) (r:=fun _=>0) (c:=1) (M:=10000) (s:=aR 0 m) (p:=fun _ L=>∃C E F t s,L=u (qi (k:Int)) (qp (pr road a c)) (qp (.tup m)) C E F t s) (fun y hy=>by
   obtain⟨i,hi,hye⟩:=jf.mp hy;obtain⟨l,hl,rfl⟩:=dg (s:=m) (i:=i) (v:=y) (by rw [cR hi,hye]);have U:Gd H b w road k (.int (a:Int)) (.int (c:Int)) m (.tup [.int (i:Int),l])=if (hR w road m && (decide (X="row") || decide (gP m l=some i)))=true then [gW H b w k (.int (a:Int)) (.int (c:Int)) m i] else []:=by simp only [Gd,Int.toNat_natCast,I,hl,Option.getD_some]
   rw [U];clear U;refine⟨by split <;> simp,fun _ L S J N A K hM=>?_⟩;obtain⟨C,E,F,t,s,rfl⟩:=N;obtain⟨j,hj,ej⟩:=kF (xs:=m) (s:=l) (fun y hy=>br (O.2 y hy).ok (by lia)) (bF hl);have G:∀s,(fP (bT (aa 10)) (xO (bV (aA dC (eV (ab al (ab al (vv 5) (vi 0)) (vi 2))) (eV (vt "row")))) (bV (aA dC (eV (l8 (vv 6) (vv 8))) (aa 7))))) (u (qi (k:Int)) (qp (pr road a c)) (qp (.tup m)) (qi (i:Int)) (qp l) (qp (.tup (sU w m i))) (qp (.bl (hR w road m))) s) S=some (hR w road m && (decide (X="row") || decide (gP m l=some i)),S):=fun s=>by
    have hd:decide (gP m l=some i)=decide ((j:Int)=(i:Int)):=pN.mpr (by rw [ej];exact⟨fun h=>by rw [Option.some.inj h],fun h=>by rw [Int.ofNat.inj h]⟩);rw [hd];by_cases q:X="row"
    .cases hR w road m <;> simp [u,pr,W,q]
    .cases hR w road m <;> simp [u,pr,W,q,ej]
   have Y:=Dh (Ph (n+1)) (Ph n) hw Q O hl (qp (aB B)) (qp (.tup [.tup H,.tup b])) (some (.ref 0)) (qi (k:Int)) a c F t s S;cases hc:(hR w road m && (decide (X="row") || decide (gP m l=some i))) with
   | false=>refine⟨u (qi (k:Int)) (qp (pr road a c)) (qp (.tup m)) (qi (i:Int)) (qp l) F t s,u (qi (k:Int)) (qp (pr road a c)) (qp (.tup m)) (qi (i:Int)) (qp l) (qp (.tup (sU w m i))) (qp (.bl (hR w road m))) s,S,rfl,?_,⟨_,_,_,_,_,rfl⟩,A,by simpa using K⟩;unfold cw;refine (Y _).trans ?_;rw [iH];refine (congrArg (fun z=>aF z _) (G s)).trans ?_;rw [hc];rfl
   | true=>
    refine⟨u (qi (k:Int)) (qp (pr road a c)) (qp (.tup m)) (qi (i:Int)) (qp l) F t s,u (qi (k:Int)) (qp (pr road a c)) (qp (.tup m)) (qi (i:Int)) (qp l) (qp (.tup (sU w m i))) (qp (.bl (hR w road m))) (qp (.tup [.tup H,.tup (b.set k (.tup (sU w m i)))])),S.set 0 (.lst ((J++[gW H b w k (.int (a:Int)) (.int (c:Int)) m i]).map .p)),rfl,?_,⟨_,_,_,_,_,rfl⟩,by rw [eG];exact A,gF K⟩;unfold cw;refine (Y _).trans ?_;rw [iH];refine (congrArg (fun z=>aF z _) (G s)).trans ?_;rw [hc];simp only [gW];generalize sU w m i=T;have f1:=cW (xs:=b.take k) (c:=[.tup T]) (by simp;lia);have f2:=cW (xs:=b.take k++[.tup T]) (c:=b.drop (k+1)) (by simp;lia);have f3:b.take k++[.tup T]++b.drop (k+1)=b.set k (.tup T):=by simp [u_,hkl]
    rw [f3] at f2;refine (aj (e:=u (qi (k:Int)) (qp (pr road a c)) (qp (.tup m)) (qi (i:Int)) (qp l) (qp (.tup T)) (qp (.bl (hR w road m))) (qp (.tup [.tup H,.tup (b.set k (.tup T))]))) (b:=S) ?_).trans (iU rfl K ?_ K (by lia))
    .simp [kc,ig,f1];simp [u,f2]
    .simp [u,pr])
  rw [AX,I,<- hF,cf] at k3;refine⟨by rw [hF];split <;> simp <;> lia,fun _ L S J N A K hM=>?_⟩;obtain⟨q4,q5,R,C,E,F,t,s,rfl⟩:=N;obtain⟨L',S',e3,⟨q7',q8',q9',Z,q11',rfl⟩,V,h5⟩:=k3 () _ S J ⟨C,E,F,t,s,rfl⟩ A K (by lia);refine⟨u (qi (k:Int)) (qp (pr road a c)) R C E F t s,u (qi (k:Int)) (qp (pr road a c)) (qp (.tup m)) q7' q8' q9' Z q11',S',rfl,?_,⟨_,_,_,_,_,_,_,_,rfl⟩,V,h5⟩;unfold dt;rw [aj (e:=u (qi (k:Int)) (qp (pr road a c)) (qp (.tup m)) C E F t s) (b:=S) (by simp [u,bu hkr])];rw [bC,mL,show (vv 6) (u (qi (k:Int)) (qp (pr road a c)) (qp (.tup m)) C E F t s) S=some (.tup m,S) by simp [u]];exact e3)
 rw [cf] at h3;obtain⟨L',S',e,⟨q4,q5,R,C,E,F,t,s,rfl⟩,A,h5⟩:=h3 () (u none none none none none none none none) [.lst []] [] ⟨_,_,_,_,_,_,_,_,rfl⟩ rfl rfl (by simp;lia);have hS1:S'=[.lst ((cH B H b w).map .p)]:=by
  match S',A with
  | [o],_=>simpa [cH] using h5
 have f2:=vK (n:=n+1) (by lia) hP;rw [j9,ai];show (match eM _ _ [qp (aB B),qp (.tup [.tup H,.tup b]),qs w,none,none,none,none,none,none,none,none,none] [] with | some (.rt d,_,S)=>(toP 9 d S).map (fun x=>x.fst) | some (.nx,_,_)=>some .non | _=>none)=some (P.lst (cH B H b w));unfold eM;rw [aj (e:=u none none none none none none none none) (b:=[.lst []]) (by simp [u])];rw [aj (by rw [bC,show gO (af (pureOf (Ph (n+1) "_law_pairs")) (v1 (vv 0))) (u none none none none none none none none) [.lst []]=some (aR 0 B.PR,[.lst []]) by simp [u,f2,BD.PR,BD.N]];exact e)];rw [hS1];simp [u]
theorem qI.ok (q:tU e) (f:∀x ∈ r,i8 x) (h:qI s r e w l v):bR 8 v=true:=by
 obtain⟨i,b,j,k,g,p,m,a,S,rfl⟩:=h;have N:=ny q.1;have M:∀x ∈ oq e++more k,i8 x:=fun x n=>(cC.mp n).elim (N x) (mJ k x);have o:bR 7 (.lst g)=true:=Aq fun c h=>by obtain⟨x,t,n,d,rfl⟩:=S.ch c h;simp [n,br (d.ok M) (show 4≤5 by lia)]
 have u:bR 7 (.lst p)=true:=Aq fun c h=>br ((S.hsn c h).ok M) (by lia);show (List.all [P.str i,b,j,k,.lst g,.lst p,m] (bR 7))=true;simp only [dD,List.all_nil,o,u,vH,a,(f b S.h1).ok 7,(f m S.h2).ok 7,S.wh.ok N,br S.htk.ok (show 2≤7 by lia),Bool.and_true]
theorem yK (m:Pln B.fams B.roads B.wishes):bR 20 (.tup [.lst B.fams,.lst B.roads,.lst B.wishes])=true:=by
 have D:bR 19 (.lst B.fams)=true:=Aq fun f p=>by
  obtain⟨C,n,o,e,w,t,F,rfl⟩:=m.hf f p;have u:bR 17 (.lst o)=true:=eY F.hro 16;have g:bR 17 (.lst e)=true:=Aq fun c h=>by obtain⟨x,lo,L,l,K,_,_,_,_,rfl⟩:=F.hce.1 c h;have v:PyData.strOk x=true:=K;simp [v]
  have i:bR 17 (.lst w)=true:=eY F.hwh 16;have j:bR 17 (.lst t)=true:=Aq fun c h=>br ((F.hst c h).ok F.hce F.hro) (by lia);show (List.all [P.str C,.int (n:Int),.lst o,.lst e,.lst w,.lst t] (bR 17))=true;simp only [dD,List.all_nil,u,g,i,j,vH,Bl,F.hnm,Bool.and_true]
 have E:bR 19 (.lst B.roads)=true:=Aq fun r q=>by
  obtain⟨a,b,A,c,I,J,y,z,d,_,_,rfl⟩:=m.hr r q;have:PyData.strOk A=true:=by rcases d with rfl | rfl <;> simp
  simp [y,z,this]
 have G:bR 19 (.lst B.wishes)=true:=Aq fun r q=>by
  obtain⟨k,f,s,H,p,S,rfl⟩:=m.hw r q;have:PyData.strOk k=true:=by rcases H with rfl | rfl <;> simp
  simp [p,S,this]
 show (List.all [P.lst B.fams,.lst B.roads,.lst B.wishes] (bR 19))=true;simp only [dD,List.all_nil,D,E,G,Bool.and_true]
theorem Ag (P:Pln B.fams B.roads B.wishes):xQ B (.tup [.tup ((av B.fams).map ga),.tup (List.replicate B.PR.length (.tup []))]):=by refine⟨_,_,rfl,by simp,fun k f x n b=>?_,by simp,fun r q=>⟨[],⟨by simp,fun _ h=>(by cases h)⟩,(pP.mp q).2⟩⟩;rw [List.getElem?_map,n] at b;cases b;obtain⟨v,a,m,e,o,s,F,rfl⟩:=ib P.hf (bF n);refine⟨v,a,m,e,o,s,rfl,0,e.map nN,List.replicate o.length (.int (-1)),rfl,len_pos F.r0,⟨by simp,fun c p=>?_⟩,by simp,fun w hw=>⟨_,(pP.mp hw).2⟩⟩;obtain⟨d,hd,rfl⟩:=bA.mp p;obtain⟨x,lo,l,t,_,u,g,i,j,rfl⟩:=F.hce.1 d hd;exact⟨t,by lia,rfl⟩
theorem Ci {B:BD} (I:B=w5 B.fams B.roads B.wishes) (m:Pln B.fams B.roads B.wishes) {n:Nat} (Z:22≤n) {st:P} (Q:xQ B st) (u q4 N K a s:Option D) :
  ∃q4' q5' q6' A C,iQ (Ph n) (Ph (n-1)) [u,qp (aB B),qp (aB B),qp st,q4,N,K,a,s] []=some (.nx,[u,qp (aB B),qp (aB B),qp st,q4',q5',q6',A,C],[]):=by
 obtain⟨c,r,rfl,t⟩:=Q;have J:Places B:=by rw [I];exact w4 _ _ _
 obtain⟨E,j⟩:=HM m J t;have e1:=B' m (n:=n) (by lia) (.inl rfl) t;have e2:=B' m (n:=n) (by lia) (.inr rfl) t;have e3:=Cy I m (n:=n) (by lia) t j;have e4:=Hm I m (n:=n) (by lia) t j;have l:(mr B c r E).length≤40000:=(wa m (n:=n) (by lia) t j).1;have o:=fun z (h:z ∈ mr B c r E)=>Am m t j h;have R:=fun z (h:z ∈ cH B c r "lose"++cH B c r "double")=>(show ∃d e,z=.tup [d,e]/\pureOf (Ph n "do") [aB B,.tup [.tup c,.tup r],d]=some e/\bR 20 e=true by
  rcases cC.mp h with h | h
  .obtain⟨_,_,_,_,_,_,_,_,_,d,e,rfl,hd,T⟩:=fN m t (.inl rfl) h;exact⟨d,e,rfl,Cz I m (by lia) t j (.inl rfl) h,br T.ok (by lia)⟩
  .obtain⟨_,_,_,_,_,_,_,_,_,d,e,rfl,hd,T⟩:=fN m t (.inr rfl) h;exact⟨d,e,rfl,Cz I m (by lia) t j (.inr rfl) h,br T.ok (by lia)⟩)
 have y:=fun z (h:z ∈ jQ B E)=>zG j h;have U:∀z ∈ cH B c r "lose"++cH B c r "double",∃w q,h_ B w q z/\w≠("step":Str):=fun z h=>by
  have Z:("lose":Str)≠"step"/\("double":Str)≠"step":=by decide +kernel
  rcases cC.mp h with h | h
  .obtain⟨_,_,_,_,_,_,_,_,_,h⟩:=fN m t (.inl rfl) h;exact⟨_,_,h,Z.1⟩
  .obtain⟨_,_,_,_,_,_,_,_,_,h⟩:=fN m t (.inr rfl) h;exact⟨_,_,h,Z.2⟩
 have hE:mr B c r E=jQ B E++(cH B c r "lose"++cH B c r "double"):=by unfold mr;rw [List.append_assoc]
 rw [hE] at e3 e4 l o;clear hE;have dd:(cH B c r "lose").length+(cH B c r "double").length≤1000000:=by rw [List.length_append,List.length_append] at l;lia
 generalize cH B c r "lose"=fl at *
 generalize cH B c r "double"=fd at *
 generalize jQ B E=H at *
 generalize hW:fl++fd=W at *
 generalize hst:P.tup [.tup c,.tup r]=st at *
 have okE:∀z ∈ H++W,bR 19 z=true:=fun z F=>by obtain⟨_,_,h⟩:=o z F;exact br h.ok (by lia)
 have n1:=nz (Aq okE);have okD:bR 20 (.lst (W.map uK))=true:=Aq fun d hd=>by obtain⟨z,F,rfl⟩:=bA.mp hd;obtain⟨_,_,d,e,rfl,h,_⟩:=o z (dX _ F);exact br h.ok (by lia)
 have n2:=nz okD;have V:(H++W).length≤1000000:=by lia
 have X:W.length≤1000000:=by rw [List.length_append] at l;lia
 have Y:H.length+W.length≤1000000:=by rw [List.length_append] at l;lia
 let p:P->Bool:=fun z=>match z with | .tup (.tup (.str w::_)::_)=>decide (w="step") | _=>false
 have hp:(H++W).filter p=H:=by
  rw [List.filter_append,mX.mpr (fun z F=>by
   obtain⟨_,_,_,rfl,⟨_,_,_,rfl,_⟩,_⟩:=y z F;simp [p]),List.filter_eq_nil_iff.mpr (fun z F=>by
   obtain⟨w,_,⟨_,_,rfl,⟨_,_,_,rfl,_⟩,_⟩,hw⟩:=U z F;simp [p,hw]),List.append_nil]
 let x:Option D->Option D->Option D->Option D->Option D->Lc:=fun q4 N K a s=>[u,qp (aB B),qp (aB B),qp st,q4,N,K,a,s]
 have c1:bb (ag 9) (bV (aA dC (eV (ab al (ab al (vv 9) (vi 0)) (vi 0))) (eV (vt "step")))) (vv 9) (H++W) [u,qp (aB B),qp (aB B),qp st,ql W,ql (H++W),K,a,s,none] []=some (H,[]):=by rw [bI (p:=p) (f:=id) (Inv:=fun L=>∃d,L=[u,qp (aB B),qp (aB B),qp st,ql W,ql (H++W),K,a,s,d]) (fun v M L J=>?_) ⟨none,rfl⟩,mw,hp];obtain⟨d,rfl⟩:=J;obtain⟨w,_,_,_,rfl,⟨_,_,_,rfl,_⟩,_⟩:=o v M;exact⟨_,rfl,⟨_,rfl⟩,by simp [p],fun _=>by simp⟩
 have c2:bb (aI [ag 7,ag 8]) fm (vv 7) W [u,qp (aB B),qp (aB B),qp st,ql W,ql (H++W),ql H,none,none] []=some (W.map uK,[]):=by rw [bI (p:=fun _=>true) (f:=uK) (Inv:=fun L=>∃d d',L=[u,qp (aB B),qp (aB B),qp st,ql W,ql (H++W),ql H,d,d']) (fun v M L J=>?_) ⟨none,none,rfl⟩,eP];obtain⟨d,d',rfl⟩:=J;obtain⟨_,_,d,e,rfl,_⟩:=o v (dX _ M);exact⟨[u,qp (aB B),qp (aB B),qp st,ql W,ql (H++W),ql H,qp d,qp e],rfl,⟨_,_,rfl⟩,rfl,fun _=>by simp⟩
 have O:cut ((H++W).map uK) (some (H.length:Int)) none=W.map uK:=by rw [n0,List.map_append,List.drop_append_of_le_length (by simp),List.drop_of_length_le (by simp),fu]
 obtain⟨L',S',e6,A,C,rfl,rfl⟩:=bg (g:=aI [ag 7,ag 8]) (b:=kf (Ph n) (Ph (n-1))) (Inv:=fun _ L S=>∃a s,L=x (ql W) (ql (H++W)) (ql H) a s/\S=[]) (s:=W.take 12) (k:=0) (L:=x (ql W) (ql (H++W)) (ql H) a s) (S:=[]) (fun i v L S M hI=>by obtain⟨a,s,rfl,rfl⟩:=hI;obtain⟨d,e,rfl,O,oe⟩:=R v (mZ (bF M));have n3:=nz oe;refine⟨x (ql W) (ql (H++W)) (ql H) (qp d) (qp e),x (ql W) (ql (H++W)) (ql H) (qp d) (qp e),[],rfl,?_,_,_,rfl,rfl⟩;simp [kf,x,O,n3]) ⟨a,s,rfl,rfl⟩
 have G:=kc (xs:=W) 12;rw [show ((12:Nat):Int)=12 from rfl] at G;refine⟨ql W,ql (H++W),ql H,A,C,?_⟩;unfold iQ;rw [aj (e:=x (ql W) N K a s) (b:=[]) (by simp [x,e1,e2,dd,hW])];rw [aj (e:=x (ql W) (ql (H++W)) K a s) (b:=[]) (by simp [x,e3])];rw [aj (e:=x (ql W) (ql (H++W)) (ql H) a s) (b:=[]) (by rw [du,pe];unfold aX;rw [fW];simp only [x,BK,lJ];simp [-List.length_append,V,kj,c1])]
 rw [aj (e:=x (ql W) (ql (H++W)) (ql H) a s) (b:=[]) (by simp [x,Y,n1])];rw [aj (e:=x (ql W) (ql (H++W)) (ql H) a s) (b:=[]) (by
  have v1:aX (hG (vv 4)) [7,8] 0 (aI [ag 7,ag 8]) fm (vv 7) (x (ql W) (ql (H++W)) (ql H) a s) []=some (.lst (W.map uK),[]):=by unfold aX;rw [fW];simp [x,X,kj,c2]
  simp only [x] at v1;simp [-List.map_append,x,e4,b_,cE,O,n2,v1])]
 rw [bC,fW];simp only [x] at e6;simp [x,G,e6]
theorem D7 (D:30≤n) (s:List Int):pureOf (Ph n "law") [cZ s]=some (.bl true):=by
 obtain⟨n,rfl⟩:=fR (n:=n) (by first | assumption | lia);obtain⟨f,r,w,a,i⟩:=A_ (n:=n+1) (by lia) s;generalize h:w5 f r w=B;have t:B.fams=f:=by rw [<- h];rfl
 have p:B.roads=r:=by rw [<- h];rfl
 have hw:B.wishes=w:=by rw [<- h];rfl
 have j:B=w5 B.fams B.roads B.wishes:=by rw [t,p,hw,h]
 rw [<- t,<- p,<- hw] at a i;clear h t p hw;obtain⟨st,v,l⟩:=C8 a (n:=n+1) (by lia) s;have y:=Ah (n:=n+1) (by lia) a;have m:pureOf (Ph (n+1) "begin") [aB B]=some (.tup [.tup ((av B.fams).map ga),.tup (List.replicate B.PR.length (.tup []))]):=y;obtain⟨q,e,k,b,c,u⟩:=Ci j a (n:=n+1) (by lia) v (qp (cZ s)) none none none none none;obtain⟨H,F,K,A,C,g⟩:=Ci j a (n:=n+1) (by lia) (Ag a) (qp (cZ s)) q e k b c;have o:=zN (yK a);simp only [j3] at u g;have z:aO (ag 3) (iQ (Ph (n+1)) (Ph n)) [st,.tup [.tup ((av B.fams).map ga),.tup (List.replicate B.PR.length (.tup []))]] [qp (cZ s),qp (aB B),qp (aB B),none,none,none,none,none,none] []=some (.nx,_,_):=(bf (s:=[qp (cZ s),qp (aB B),qp (aB B),qp st,none,none,none,none,none]) rfl u).trans ((bf (s:=[qp (cZ s),qp (aB B),qp (aB B),qp (.tup [.tup ((av B.fams).map ga),.tup (List.replicate B.PR.length (.tup []))]),q,e,k,b,c]) rfl g).trans rfl);rw [BJ,ai];show (match rL _ _ [qp (cZ s),none,none,none,none,none,none,none,none] [] with | some (.rt d,_,S)=>(toP 9 d S).map (fun x=>x.fst) | some (.nx,_,_)=>some .non | _=>none)=some (P.bl true);unfold rL;rw [aj (e:=[qp (cZ s),qp (aB B),none,none,none,none,none,none,none]) (b:=[]) (by simp [i])];rw [aj (e:=[qp (cZ s),qp (aB B),qp (aB B),none,none,none,none,none,none]) (b:=[]) (by simp [hU])];rw [aj (by rw [bC,fW,show (aS (v2 (af (pureOf (Ph (n+1) "_law_standing")) (v2 (vv 0) (vv 1))) (af (pureOf (Ph (n+1) "begin")) (v1 (vv 1))))) [qp (cZ s),qp (aB B),qp (aB B),none,none,none,none,none,none] []=some (.lst [st,.tup [.tup ((av B.fams).map ga),.tup (List.replicate B.PR.length (.tup []))]],[]) by simp [l,m]];exact z)]
 simp [o]
theorem zh {s:List Int} (l:s.length≤63) (h:xS H) (S:gQ K H a (s.map V.int)):ol K (HF Gv Att Tb 200 "law") [.ref a] H (fun v _=>v=.bl true) (fun _ _ _=>False):=by have e:=D7 (n:=200) (by decide) s;unfold Ph at e;exact D8 h S e
end My
namespace PySem.W.Fast
def tw14024083859527664589:Unit:=()
def tw2118868532405559502:Unit:=()
def tw9477222268911544456:Unit:=()
def tw3914657598012845066:Unit:=()
def tw8654482581790483940:Unit:=()
def tw3735450709287249000:Unit:=()
def tw1401277659802583001:Unit:=()
def tw1316808827130628680:Unit:=()
def tw5310540448401958004:Unit:=()
def tw13379286656743557810:Unit:=()
def tw15382016318436818082:Unit:=()
def tw4136171507482922260:Unit:=()
def tw7412615884123786368:Unit:=()
def tw7652848649044278117:Unit:=()
def tw9947298558453319569:Unit:=()
def tw339781458586674602:Unit:=()
def tw11651810101194050918:Unit:=()
def tw8449731519492788041:Unit:=()
def tw14038411295087926398:Unit:=()
def tw13099758793292546740:Unit:=()
def tw9436964931588590216:Unit:=()
def tw9790074933735778726:Unit:=()
def tw14603845599947220922:Unit:=()
def tw2059518337548152337:Unit:=()
def tw11544365885047334015:Unit:=()
def tw13126085187484229533:Unit:=()
def tw17845216915171524698:Unit:=()
def tw17212345637196237149:Unit:=()
def tw6064596778328902601:Unit:=()
def tw8767940123526357581:Unit:=()
def tw15830986554076812590:Unit:=()
def tw7937668682585440769:Unit:=()
def tw11488379737527930357:Unit:=()
def tw11024754708683919051:Unit:=()
def tw1072581951314636984:Unit:=()
def tw16263474405980017090:Unit:=()
def tw15704464386340510539:Unit:=()
def tw14071326258475950144:Unit:=()
def tw2676287843961140964:Unit:=()
def tw6623874034484544556:Unit:=()
def tw7154480309217855130:Unit:=()
def tw13378125334901986515:Unit:=()
def tw15864593883043676888:Unit:=()
def tw6691512757786180851:Unit:=()
def tw11742845277144548805:Unit:=()
def tw11126844076915402352:Unit:=()
def tw12734255932607172939:Unit:=()
def tw10031633015337167822:Unit:=()
def tw7705721907913948319:Unit:=()
def tw11064612125378105656:Unit:=()
def tw2714931285903770314:Unit:=()
def tw11775383339078017322:Unit:=()
def tw12861751012275919773:Unit:=()
def tw3456278332014169867:Unit:=()
def tw10370682250847860372:Unit:=()
def tw12177181431799610401:Unit:=()
def tw193591567745194601:Unit:=()
def tw2764787600461682238:Unit:=()
def tw5805797998341211272:Unit:=()
def tw4309580757321184826:Unit:=()
def tw3860010335569993237:Unit:=()
def tw10483879119302714150:Unit:=()
def tw6269247156125305161:Unit:=()
def tw8644499926191037804:Unit:=()
def tw6916604738548610603:Unit:=()
def tw7210205586126527553:Unit:=()
def tw5165563682459535159:Unit:=()
def tw17411267666118013433:Unit:=()
def tw17711613046539254028:Unit:=()
def tw16509551552198441276:Unit:=()
def tw13757150771862921198:Unit:=()
def tw1744125060271268518:Unit:=()
def tw9428475158033459623:Unit:=()
def tw10784152392744512731:Unit:=()
def tw15133140194423556835:Unit:=()
def tw1391380703100971741:Unit:=()
def tw17278012230609945585:Unit:=()
def tw12067098119557761067:Unit:=()
def tw1862868695124181488:Unit:=()
def tw15683432838832665856:Unit:=()
def tw13057875213784528701:Unit:=()
def tw12670246800808409173:Unit:=()
def tw11743013293255734019:Unit:=()
def tw4604936469416896223:Unit:=()
def tw14804059715920009142:Unit:=()
def tw18240929240194473927:Unit:=()
def tw2213748570591010640:Unit:=()
def tw14393195423875659683:Unit:=()
def tw12646184650423775826:Unit:=()
def tw18043419036752411070:Unit:=()
def tw15914986644808927683:Unit:=()
def tw3432481931368552722:Unit:=()
def tw13726440767026592365:Unit:=()
def tw12496394350535476725:Unit:=()
def tw1148215957903296749:Unit:=()
def tw9209269901716432982:Unit:=()
def tw7786976876685399455:Unit:=()
def tw3307712903165944423:Unit:=()
def tw7806140140950384352:Unit:=()
def tw11608390596969892433:Unit:=()
def tw16365018452991465391:Unit:=()
def tw7529904957214804495:Unit:=()
def tw9669095825997534313:Unit:=()
def tw341015290392752711:Unit:=()
def tw1244281419240073396:Unit:=()
def tw13205476013483437313:Unit:=()
def tw11419543687551816115:Unit:=()
def tw6791202320432462475:Unit:=()
def tw8107994849190430782:Unit:=()
def tw11487674299848609222:Unit:=()
def tw2745182134434897035:Unit:=()
def tw14317147070440178464:Unit:=()
def tw7798550134875023916:Unit:=()
def tw1014712913405147295:Unit:=()
def tw16018107882952891606:Unit:=()
def tw18187745656230989768:Unit:=()
def tw16264721401091600955:Unit:=()
def tw871657623901795258:Unit:=()
def tw6241683235823653538:Unit:=()
def tw3731002053154733500:Unit:=()
def tw10563633071215523513:Unit:=()
def tw7601752318574806466:Unit:=()
def tw7746729862535072614:Unit:=()
def tw1252348654218044829:Unit:=()
def tw15307481946562559515:Unit:=()
def tw4493672882209446866:Unit:=()
def tw14386428998165597273:Unit:=()
def tw15360188570104664016:Unit:=()
def tw6368387244259787169:Unit:=()
def tw16598118156669206803:Unit:=()
def tw553252233638020134:Unit:=()
def tw13745479762942258458:Unit:=()
def tw7041959323037675752:Unit:=()
def tw16466227502394182716:Unit:=()
def tw1381004722760565622:Unit:=()
def tw10613848364333585673:Unit:=()
def tw17810054033488150822:Unit:=()
def tw5553911287074185944:Unit:=()
def tw7993387073055651503:Unit:=()
def tw12221574930609694604:Unit:=()
def tw15636039869809034609:Unit:=()
def tw3429078390931682900:Unit:=()
def tw11337021677143975572:Unit:=()
def tw881167706939443307:Unit:=()
def tw13643224892383741826:Unit:=()
def tw17497490305848062250:Unit:=()
def tw16358890686996339426:Unit:=()
def tw3774420442359812039:Unit:=()
def tw7937057691617530790:Unit:=()
def tw3214583169331616990:Unit:=()
def tw6506274633651635234:Unit:=()
def tw3323990372575215840:Unit:=()
def tw14526638721988001918:Unit:=()
def tw11962033451804025712:Unit:=()
def tw1639768095671706694:Unit:=()
def tw17507258562267069206:Unit:=()
def tw10329965400177366217:Unit:=()
def tw5910316454031513164:Unit:=()
def tw15987434255643996330:Unit:=()
def tw15969670436343497684:Unit:=()
def tw10429546427554486433:Unit:=()
def tw14653113333181292860:Unit:=()
def tw16633083934042727787:Unit:=()
def tw17081358368611077989:Unit:=()
def tw8588178044367611019:Unit:=()
def tw6879325678280580155:Unit:=()
def tw8438914260748699112:Unit:=()
def tw8121651382592742229:Unit:=()
def tw7755422036669818264:Unit:=()
def tw4708283553296246551:Unit:=()
def tw8010406514772788615:Unit:=()
def tw18152826373527473313:Unit:=()
def tw6716268437542884279:Unit:=()
def tw13205516280607428631:Unit:=()
def tw13570588961979839960:Unit:=()
def tw335841510773964985:Unit:=()
def tw6959564739896573057:Unit:=()
def tw17694118266556107677:Unit:=()
def tw7576867830863232633:Unit:=()
def tw7697093724559764520:Unit:=()
def tw3672809175186482187:Unit:=()
def tw3408167424508118337:Unit:=()
def tw13390526660180378257:Unit:=()
def tw6433388264049988945:Unit:=()
def tw6438905497674029622:Unit:=()
def tw11579682792990294160:Unit:=()
def tw11434536398784329151:Unit:=()
def tw5693913742305088108:Unit:=()
def tw6061697366555681176:Unit:=()
def tw17061577473728391883:Unit:=()
def tw1440922998825895050:Unit:=()
def tw3176399205441594131:Unit:=()
def tw12495270690412347530:Unit:=()
def tw10814628350213212964:Unit:=()
def tw15141450731252265626:Unit:=()
def tw2078467982909220556:Unit:=()
def tw15433259754743859017:Unit:=()
def tw8743149337186812139:Unit:=()
def tw1595898803314143581:Unit:=()
def tw14599193601378422296:Unit:=()
def tw11866463078944531960:Unit:=()
def tw16409916755629582589:Unit:=()
end PySem.W.Fast
open PySem PySem.W PyProof.Rows
set_option maxRecDepth 100000 in
set_option maxHeartbeats 0 in
theorem PySem.Challenge.cw_roadsall_k24_losses_and_doublings_holds : PySem.Challenge.rw_roadsall_k24_losses_and_doublings.Holds := by
 w_on;o_law;k_head;(case hw=>w_witness2)
 k_fill
 refine L2.x8 (l:=PySem.Challenge.rw_roadsall_k24_losses_and_doublings) (n:=63) (k:=200) (x:="_law_script") (CX:=L2.pI) (sp:=fun K=>Ev.ol K (Ev.HF My.Gv My.Att My.Tb 200 "law")) rfl (by decide) rfl ⟨rfl,by decide,by decide⟩ (fun w h Y=>PySem.W.kIn_of Y) ?F ?S ?C
 case F=>
  intro w mg fa h KX G hmg
  have T:Ev.TOk w My.Gv My.Att My.Tb (L2.K3 KX) mg:=by
   dsimp only [L2.K3]
   refine' My.EH KX G ?ca0 ?cb0 ?cc0 ?cd0' ?ce0 ?cf0 ?cg0 ?na0_0 ?na0_1 ?na0_2 ?na0_3 ?na0_4 ?h0 ?h1 ?h2 ?h3 ?h4 ?h5 ?h6 ?h7 ?h8 ?h9 ?h10 ?h11 ?h12 ?h13 ?h14 ?h15 ?h16 ?h17 ?h18 ?h19 ?h20 ?h21 ?h22 ?h23 ?h25 ?h26 ?h27 ?h28 ?h30 ?h31 ?h32 ?h33 ?h34 ?h35 ?h36 ?h37 ?h38 ?h40 ?h41 ?h42 ?h43 ?h44 ?h45 ?a24 ?w24 ?l24 ?c24 ?k24 ?a29 ?w29 ?l29 ?c29 ?k29 ?a39 ?w39 ?l39 ?c39 ?k39 ?gv0 ?gv1 ?z
   (case ca0=>k_is)
   (case cb0=>k_is)
   (case cc0=>k_is)
   (case cd0'=>k_is)
   (case ce0=>k_is)
   (case cf0=>k_is)
   (case cg0=>k_is)
   (case na0_0=>k_is)
   (case na0_1=>k_is)
   (case na0_2=>k_is)
   (case na0_3=>k_is)
   (case na0_4=>k_is)
   case h0 | h1 | h2 | h3 | h4 | h5 | h6 | h7 | h8 | h9 | h10 | h11 | h12 | h13 | h14 | h15 | h16 | h17 | h18 | h19 | h20 | h21 | h22 | h23 | h25 | h26 | h27 | h28 | h30 | h31 | h32 | h33 | h34 | h35 | h36 | h37 | h38 | h40 | h41 | h42 | h43 | h44 | h45=>exact⟨_,_,_,_,_,_,_,_,_,_,by k_is,by k_is,by k_is,by k_is⟩
   (case a24=>k_is)
   (case w24=>k_is)
   (case l24=>k_is)
   (case c24=>k_is)
   (case k24=>k_is)
   (case a29=>k_is)
   (case w29=>k_is)
   (case l29=>k_is)
   (case c29=>k_is)
   (case k29=>k_is)
   (case a39=>k_is)
   (case w39=>k_is)
   (case l39=>k_is)
   (case c39=>k_is)
   (case k39=>k_is)
   case gv0 | gv1=>exact⟨_,by k_is⟩
   case z=>
    intro x hx
    simp only [Ev.BW,List.mem_cons,List.not_mem_nil,or_false] at hx
    rcases hx with rfl | rfl | rfl | rfl | rfl | rfl | rfl | rfl | rfl | rfl | rfl | rfl | rfl | rfl | rfl | rfl | rfl | rfl | rfl <;> k_is
  obtain⟨f,fd,h1⟩:=T.fn My.rg (by simp [My.Tb])
  have e0:=hmg.symm.trans (h1.gl (by decide +kernel))
  cases e0
  refine⟨fd,?_,fun base kb nb=>((Ev.wd T 200).1 My.rg (by simp [My.Tb]) _ fd h1.fn)⟩
  obtain⟨oc,od,kV,doc,pm,an,cdv,ct,osl,rfl,lk,hcd⟩:=h1.fn.ex
  exact fun s v=>.of_eq rfl
 case S=>exact fun w H a ns hl hO hS=>My.zh hl hO hS
 case C=>exact fun _ _ _ _ z=>z
