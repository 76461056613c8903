import PyProof.Rows.All
import Wide.All
import OpenK.AllK
import Wide.FinOn
import Lean
import PyProof.EqAt
import PyProof.EqKinds
import PyProof.TupleCall
import PySem.Challenge.RW_roadsall_k31_wishes_able_and_done
set_option Elab.async false
set_option linter.all false
set_option maxRecDepth 100000
set_option maxHeartbeats 4000000
noncomputable section
abbrev VP:=PySem.Value->PySem.Shared->Prop
abbrev PN:=List (PySem.Addr×PySem.Obj)
abbrev SV:=PySem.Str->Option PySem.Value
abbrev Aa:=PySem.Addr->Prop
abbrev LS:=List PySem.Str
abbrev LV:=List PySem.Value
abbrev Ab:=List PySem.Expr
abbrev OV:=Option PySem.Value
abbrev FG:=PySem.W.Frag
abbrev az:=@List.mem_cons
abbrev bg:=@List.mem_cons_of_mem
abbrev bt:=@List.getElem?_set_ne
abbrev bA:=@List.mem_of_getElem?
abbrev bx:=@List.length_cons
abbrev aU:=@Nat.le_trans
abbrev bQ:=@List.all_eq_true
abbrev dI:=@List.getElem?_eq_getElem
abbrev bP:=@List.length_map
abbrev cO:=@List.length_append
abbrev cL:=@List.getElem?_set_self
abbrev bZ:=@Bool.false_ne_true
abbrev bB:=@decide_eq_false
abbrev cq:=@Nat.lt_of_lt_of_le
abbrev dE:=@List.replicate_succ
abbrev fZ:=@List.getElem?_append_right
abbrev dj:=@List.not_mem_nil
abbrev b_:=@Nat.ne_of_lt
abbrev d6:=@Int.emod_lt_of_pos
abbrev dD:=@Int.emod_nonneg
abbrev cn:=@List.mem_map
abbrev iu:=@List.eq_nil_of_length_eq_zero
abbrev fY:=@List.mem_append_right
abbrev dL:=@List.mem_append
abbrev cK:=@Nat.ne_of_gt
abbrev ir:=@List.getD_eq_getElem?_getD
abbrev eI:=@PySem.W.kia_one
abbrev iq:=@List.getElem?_take_of_lt
abbrev fw:=@List.getElem_mem
abbrev dJ:=@Nat.zero_add
abbrev fu:=@List.mem_filter
abbrev fq:=@List.length_set
abbrev ip:=@List.set_getElem_self
abbrev d5:=@Int.zero_add
abbrev fX:=@List.nil_append
abbrev jc:=@Option.map_eq_some_iff
abbrev aI:=@PySem.W.mg_of
abbrev hR:=@List.flatten_cons
abbrev gF:=@List.foldl_cons
abbrev jb:=@List.mem_append_left
abbrev j4:=@List.length_filter_le
abbrev io:=@List.length_take
abbrev fW:=@List.map_nil
abbrev gE:=@List.any_cons
abbrev di:=@or_false
abbrev ja:=@List.flatMap_cons
abbrev j3:=@beq_eq_false_iff_ne
abbrev mY:=@PyProof.Rows.callWith_type1
abbrev i':=@PySem.wpAny_truthy_bool
abbrev i_:=@List.mem_flatMap
abbrev i9:=@List.any_eq_true
abbrev im:=@decide_eq_true
abbrev j1:=@Nat.add_sub_cancel
abbrev j0:=@List.mem_singleton
abbrev kW:=@PySem.F.slot_dict_get
abbrev i8:=@List.find?_cons
abbrev i7:=@Bool.or_eq_true
abbrev i6:=@Bool.eq_iff_iff
abbrev jZ:=@PySem.Calls.spliced_nil
abbrev kU:=@Nat.lt_of_le_of_lt
abbrev il:=@Nat.le_of_lt
abbrev i5:=@Nat.lt_irrefl
abbrev kT:=@PySem.wpAny_Call_Name_kw
abbrev jY:=@PySem.wpAny_loadPart'
abbrev jX:=@List.mem_range
abbrev pU:=@List.mem_of_find?_eq_some
abbrev mX:=@PySem.mem_of_lookup
abbrev mW:=@Array.length_toList
abbrev jW:=@List.all_cons
abbrev i4:=@Sum.inr.inj
abbrev mV:=@PySem.W.kitx_list
abbrev pT:=@PySem.F.slot_tuple_mul
abbrev pS:=@PySem.F.entry_dict_get
abbrev mU:=@PySem.tupleKind_room_in1
abbrev jV:=@PyProof.Rows.slot_tuple_getitem
abbrev pR:=@PySem.wpAny_getItem_str_slice
abbrev pQ:=@List.mem_of_mem_take
abbrev pP:=@List.mem_iff_getElem
abbrev kS:=@Nat.lt_trans
abbrev pO:=@List.mem_replicate
abbrev pN:=@List.mem_filterMap
abbrev mS:=@PySem.wpAny_passesOwn
abbrev ue:=@Array.getElem?_eq_getElem
abbrev pM:=@PySem.Heap.SameBut.update
abbrev ud:=@PySem.F.args_tuple_add_2
abbrev uc:=@PySem.F.plainAttrs_list
abbrev ub:=@PySem.F.plainAttrs_dict
abbrev ua:=@PySem.F.entry_tuple_add
abbrev pL:=@Option.bind_some
abbrev pK:=@Nat.lt_succ_self
abbrev pJ:=@List.take_length
abbrev pI:=@List.lookup_cons
abbrev t_:=@List.getElem?_replicate
abbrev t8:=@List.filter_cons_of_pos
abbrev t6:=@List.filter_cons_of_neg
abbrev t5:=@PySem.F.slot_tuple_add
abbrev t4:=@PyProof.Rows.boot_list
abbrev kR:=@PySem.sizeLine_eq
abbrev pH:=@List.find?_some
abbrev pG:=@List.filter_map
abbrev mG:=@List.cons.injEq
abbrev qc:=@PySem.SeqAt.eqv_refl
abbrev qa:=@List.mem_of_mem_drop
abbrev mF:=@List.drop_zero
abbrev p':=@PySem.F.slot_zip_getattribute
abbrev kn:=@PySem.wpAny_typeOf
abbrev km:=@PySem.call_meetsIn
abbrev p_:=@PySem.W.plainGet_of
abbrev p9:=@List.filterMap_cons
abbrev mE:=@PySem.post_val_or_str
abbrev kl:=@beq_iff_eq
abbrev p7:=@PySem.W.callWith_K
abbrev p6:=@PySem.Heap.get?_update_self
abbrev ve:=@List.findIdx?_eq_some_iff_getElem
abbrev iw:=@if_true
abbrev mD:=@Nat.mul_comm
abbrev p0:=@Nat.le_of_succ_le
abbrev pZ:=@List.range'_succ
abbrev pY:=@List.length_drop
abbrev pX:=@List.drop_length
abbrev pW:=@List.cons_append
abbrev pV:=@Bool.not_eq_true
abbrev mB:=@Nat.le_succ
namespace L2
open PySem PySem.Spec PyProof.Rows
noncomputable abbrev bI:=Sum Int Str
noncomputable def o7:bI->Value->Bool
 | .inl k,v=>Value.isInt k v
 | .inr x,v=>Value.isStrOf x v
noncomputable def Jy (w:World):bI->Int
 | .inl k=>hashInt k
 | .inr x=>hashStr w x
theorem cG:∀{k:bI}{v:Value},o7 k v=true->(∃i t,k=Sum.inl i/\v=Value.int i t)\/(∃x t,k=Sum.inr x/\v=Value.str x t)
 | .inl i,v,h=>by obtain⟨t,e⟩:=Value.isInt_shape (k:=i) (v:=v) h;exact .inl ⟨i,t,rfl,e⟩
 | .inr x,v,h=>by obtain⟨t,e⟩:=Value.isStrOf_shape (x:=x) (v:=v) h;exact .inr ⟨x,t,rfl,e⟩
theorem w9 (i:Int) (t:Tok):o7 (.inl i) (.int i t)=true:=by simp [o7,Value.isInt]
theorem w8 (x:Str) (t:Tok):o7 (.inr x) (.str x t)=true:=by simp [o7,Value.isStrOf]
theorem DN (a b:Int):decide ((Sum.inl a:bI)=Sum.inl b)=(a == b):=by
 by_cases e:a=b
 .subst e;simp
 .have h:¬(Sum.inl a:bI)=Sum.inl b:=fun q=>e (Sum.inl.inj q);rw [bB h];exact (j3.mpr e).symm
theorem DK (a b:Str):decide ((Sum.inr a:bI)=Sum.inr b)=decide (a=b):=by
 by_cases e:a=b
 .subst e;simp
 .have h:¬(Sum.inr a:bI)=Sum.inr b:=fun q=>e (i4 q);rw [bB h,bB e]
theorem DM (a:Int) (b:Str):decide ((Sum.inl a:bI)=Sum.inr b)=false:=bB (fun q=>nomatch q)
theorem DL (a:Str) (b:Int):decide ((Sum.inr a:bI)=Sum.inl b)=false:=bB (fun q=>nomatch q)
noncomputable def bU (prog:Program) (w:World):PySem.KeyKind prog w bI where
 is:=o7
 hash:=Jy w
 inj:=fun v a b c f=>by
  rcases cG c with ⟨i,t,rfl,rfl⟩ | ⟨x,t,rfl,rfl⟩
  .rcases cG f with ⟨j,u,rfl,e⟩ | ⟨y,u,rfl,e⟩
   .injection e with s _;rw [s]
   .exact nomatch e
  .rcases cG f with ⟨j,u,rfl,e⟩ | ⟨y,u,rfl,e⟩
   .exact nomatch e
   .injection e with s _;rw [s]
 byValue:=fun k v h=>by rcases cG h with ⟨i,t,rfl,rfl⟩ | ⟨x,t,rfl,rfl⟩ <;> rfl
 pyHash:=fun n h=>by
  rcases cG n with ⟨i,t,rfl,rfl⟩ | ⟨x,t,rfl,rfl⟩
  .exact wpAny_pyHash_int h
  .exact wpAny_pyHash_str h
 eqBool:=fun m n h=>by
  rcases cG m with ⟨i,t,rfl,rfl⟩ | ⟨x,t,rfl,rfl⟩
  .rcases cG n with ⟨j,u,rfl,rfl⟩ | ⟨y,u,rfl,rfl⟩
   .rw [DN] at h;exact wpAny_eqBool_int h
   .rw [DM] at h;exact SeqAt.EqAt.int_str i t y u _ _ _ _ h
  .rcases cG n with ⟨j,u,rfl,rfl⟩ | ⟨y,u,rfl,rfl⟩
   .rw [DL] at h;exact SeqAt.EqAt.str_int x t j u _ _ _ _ h
   .rw [DK] at h;exact wpAny_eqBool_str h
 «strs»:=fun k x t v h=>by
  rcases cG h with ⟨i,u,rfl,e⟩ | ⟨y,u,rfl,e⟩
  .exact nomatch e
  .injection e with s _;subst s;cases v <;> rfl
theorem sF (prog:Program) (w:World) (i:Int) (t:Tok):(bU prog w).is (.inl i) (.int i t)=true:=w9 i t
theorem sE (prog:Program) (w:World) (x:Str) (t:Tok):(bU prog w).is (.inr x) (.str x t)=true:=w8 x t
inductive V where
 | non | bl (b:Bool) | int (i:Int) | str (x:Str) | byt (b:Array UInt8) | flt (b:UInt64) | ref (a:Addr) | ty (n:String)
 deriving DecidableEq
noncomputable def RelV:V->Value->Prop
 | .non,u=>u=Value.none
 | .bl b,u=>u=Value.bool b
 | .int i,u=>∃t,u=Value.int i t
 | .str x,u=>∃t,u=Value.str x t
 | .byt b,u=>∃t,u=Value.bytes b t
 | .flt b,u=>∃t,u=Value.float b t
 | .ref a,u=>u=Value.ref a
 | .ty n,u=>u=Value.type n
noncomputable abbrev aQ:List V->LV->Prop:=Paired RelV
variable {Y:LV}
theorem aQ.length (r:aQ xs Y):xs.length=Y.length:=Paired.length r
theorem aQ.get:∀{xs:List V}{Y:LV}{i:Nat}{x:V},aQ xs Y->xs[i]? = some x->∃u,Y[i]? = some u/\RelV x u
 | _,_,_,_,.nil,e=>by simp at e
 | _,_,0,_,.cons r _,e=>by simp at e;subst e;exact⟨_,rfl,r⟩
 | _,_,i+1,x,.cons _ t,e=>by obtain⟨u,J,h2⟩:=aQ.get (i:=i) (x:=x) t (by simpa using e);exact⟨u,by simpa using J,h2⟩
variable {u:Value}
theorem aQ.set (r:RelV x u):∀{xs:List V}{Y:LV} (i:Nat),aQ xs Y->aQ (xs.set i x) (Y.set i u)
 | _,_,_,.nil=>.nil
 | _,_,0,.cons _ t=>.cons r t
 | _,_,i+1,.cons q t=>.cons q (aQ.set r i t)
theorem aQ.append:∀{xs ys:List V}{Y w:LV},aQ xs Y->aQ ys w->aQ (xs++ys) (Y++w)
 | _,_,_,_,.nil,s=>s
 | _,_,_,_,.cons r t,s=>.cons r (aQ.append t s)
theorem aQ.take:∀{xs:List V}{Y:LV} (n:Nat),aQ xs Y->aQ (xs.take n) (Y.take n)
 | _,_,0,_=>.nil
 | _,_,_+1,.nil=>.nil
 | _,_,n+1,.cons r t=>.cons r (aQ.take n t)
theorem aQ.drop:∀{xs:List V}{Y:LV} (n:Nat),aQ xs Y->aQ (xs.drop n) (Y.drop n)
 | _,_,0,r=>r
 | _,_,_+1,.nil=>.nil
 | _,_,n+1,.cons _ t=>aQ.drop n t
noncomputable def i3:Option V->OV->Prop
 | some v,some u=>RelV v u
 | none,none=>True
 | _,_=>False
noncomputable def KV:List (κ×V)->List (κ×Value)->Prop:=Paired fun (p:κ×V) (q:κ×Value)=>p.1=q.1/\RelV p.2 q.2
noncomputable def kV:bI->V
 | .inl i=>.int i
 | .inr x=>.str x
noncomputable def lI (h:Heap) (a:Addr) (i:Array Value):Prop:=∃o,h.get? a=some o/\(o.cls=.type "tuple"/\∃n,o.data=.seq i n)/\o.dict=none
variable {h:Heap}{a:Addr}
theorem lI.tup (x:lI h a N):IsTup h a N:=by obtain⟨o,e,c,_⟩:=x;exact⟨o,e,c⟩
theorem lI.lt (x:lI h a N):a < h.objs.size:=x.tup.lt
theorem lI.new (h:Heap) (i:Array Value):lI (h.push { cls:=.type "tuple",data:=.seq i }) h.objs.size i:=⟨_,Heap.get?_push_size _ rfl,⟨rfl,_,rfl⟩,rfl⟩
inductive HO where
 | lst (xs:List V)
 | tup (xs:List V)
 | dK (kvs:List (bI×V)) | dT (kvs:List (List bI×V))
 | set (S:Int->Bool) (n:Nat)
 | ins (C dx:Addr) (fs:List (Str×V))
 | own (x:Addr)
 | xd (fs:List (Str×V))
 | met (f x:Addr)
 | rng (lo hi:Int)
 | frz (o:Obj) (u:HO)
 | tbl (ps:Array Value)
 | ext (φ:Heap->Prop)
noncomputable abbrev Hp:=Addr->Option HO
noncomputable def cm (H:Hp) (a:Addr) (o:HO):Hp:=fun b=>if b=a then some o else H b
variable {H:Hp}
theorem aN:cm H a o a=some o:=by unfold cm;rw [if_pos rfl]
variable {b:Addr}
theorem aE (h:b≠a):cm H a o b=H b:=by unfold cm;rw [if_neg h]
theorem F9 {H:Hp}{a b:Addr}{o u:HO} (h:H a=some o) (h':H b=some u) (d:o≠u):a≠b:=by intro e;subst e;rw [h] at h';exact d (Option.some.inj h')
theorem cM (h:H a=some o) (h':H b=none):a≠b:=by intro e;subst e;rw [h] at h';cases h'
section
variable (P:Program) (w:World)
noncomputable def ci (H:Hp) (h:Heap) (a:Addr):HO->Prop
 | .lst xs=>xs.length≤sizeLine/\∃(i:LV) (n:Nat),aQ xs i/\h.get? a=some { cls:=.type "list",data:=.seq i.toArray n }
 | .tup xs=>xs.length≤sizeLine/\∃i:LV,aQ xs i/\lI h a i.toArray
 | .dK j=>j.length≤sizeLine/\(a == sysModules)=false/\∃k,KV j k/\h.DictOf (bU P w) a k
 | .dT j=>j.length≤sizeLine/\(a == sysModules)=false/\∃xs:List (List bI×Addr×Value),
   Paired (fun (p:List bI×V) (e:List bI×Addr×Value)=>p.1=e.1/\H e.2.1=some (.tup (p.1.map kV))/\RelV p.2 e.2.2) j xs /\
   ∃o es b,h.get? a=some o/\o.ExactDict/\o.data=.dict es b/\es.toList=xs.map (entryOfKey (tupleKind (bU P w)))/\(xs.map (·.1)).Nodup
 | .set S n=>h.SetOf (intKind P w) a S n
 | .ins C dx fs=>H dx=some (.own a)/\fs.length≤1000/\dx≠a/\h.get? a=some (PySem.W.instObj C dx) /\
   ∃mA,h.Ns1 dx mA/\(∀f,i3 (fs.lookup f) (mA f))/\PySem.Within mA (fs.map (·.1))
 | .own _=>∃o,h.get? a=some o
 | .xd fs=>∃mA,h.Ns1 a mA/\∀f,i3 (fs.lookup f) (mA f)
 | .rng I q=>∃t u v,h.get? a=some { cls:=.type "range",data:=.fields #[.int I t,.int q u,.int 1 v] }
 | .frz o u=>h.get? a=some o/\ci H h a u
 | .tbl ps=>h.get? a=some { cls:=.none,data:=.fields ps }
 | .met f x=>h.get? a=some (PySem.W.methodObj (.ref f) (.ref x))
 | .ext s=>s h/\(∃o,h.get? a=some o)/\∀J h2:Heap,s J->(∀o,J.get? a=some o->h2.get? a=some o)->s h2
noncomputable def jH (H:Hp) (h:Heap):Prop:=∀a o,H a=some o->ci P w H h a o
end
section
variable {P:Program}{w:World}{H H':Hp}{h h':Heap}{a:Addr}{o:HO}
theorem ci.lt (x:ci P w H h a o):a < h.objs.size:=by
 cases o with
 | lst xs=>obtain⟨_,_,_,_,e⟩:=x;exact Heap.lt_size e
 | tup xs=>obtain⟨_,_,_,p⟩:=x;exact p.lt
 | dK j=>obtain⟨_,_,_,_,o,_,_,e,_⟩:=x;exact Heap.lt_size e
 | dT j=>obtain⟨_,_,_,_,o,_,_,e,_⟩:=x;exact Heap.lt_size e
 | set S n=>obtain⟨o,_,_,_,e,_⟩:=x;exact Heap.lt_size e
 | ins C dx fs=>obtain⟨_,_,_,e,_⟩:=x;exact Heap.lt_size e
 | own y=>obtain⟨_,e⟩:=x;exact Heap.lt_size e
 | xd fs=>obtain⟨_,⟨_,_,_,e,_⟩,_⟩:=x;exact Heap.lt_size e
 | rng I q=>obtain⟨_,_,_,e⟩:=x;exact Heap.lt_size e
 | frz b u=>obtain⟨e,_⟩:=x;exact Heap.lt_size e
 | tbl ps=>exact Heap.lt_size (show h.get? a=some _ from x)
 | met f y=>exact Heap.lt_size (show h.get? a=some _ from x)
 | ext s=>obtain⟨_,⟨_,e⟩,_⟩:=x;exact Heap.lt_size e
theorem Paired.mapP:∀{l:List α}{h:List β},Paired F l h->(∀a b,F a b->N a b)->Paired N l h
 | _,_,.nil,_=>.nil
 | _,_,.cons r t,f=>.cons (f _ _ r) (Paired.mapP t f)
theorem ci.stay (x:ci P w H h a o) (k:∀b u,(b=a\/H b=some (.own a))->h.get? b=some u->h'.get? b=some u)
  (K:∀b,H b=some (.own a)->H' b=some (.own a)) (A:∀b xs,H b=some (.tup xs)->H' b=some (.tup xs)):ci P w H' h' a o:=by
 induction o with
 | lst xs=>obtain⟨z,i,n,r,e⟩:=x;exact⟨z,i,n,r,k _ _ (.inl rfl) e⟩
 | tup xs=>obtain⟨z,i,r,m,e,c⟩:=x;exact⟨z,i,r,m,k _ _ (.inl rfl) e,c⟩
 | dK j=>obtain⟨z,y,E,r,m,es,g,e,c⟩:=x;exact⟨z,y,E,r,m,es,g,k _ _ (.inl rfl) e,c⟩
 | dT j=>obtain⟨z,y,xs,r,m,es,g,e,c⟩:=x;exact⟨z,y,xs,Paired.mapP r fun p s z=>⟨z.1,A _ _ z.2.1,z.2.2⟩,m,es,g,k _ _ (.inl rfl) e,c⟩
 | set S n=>obtain⟨m,es,g,t,e,c⟩:=x;exact⟨m,es,g,t,k _ _ (.inl rfl) e,c⟩
 | ins C dx fs=>obtain⟨d,z,D,e,mA,⟨l,es,g,F,c⟩,r⟩:=x;exact⟨K _ d,z,D,k _ _ (.inl rfl) e,mA,⟨l,es,g,k _ _ (.inr d) F,c⟩,r⟩
 | own y=>obtain⟨m,e⟩:=x;exact⟨m,k _ _ (.inl rfl) e⟩
 | xd fs=>obtain⟨mA,⟨l,es,g,e,c⟩,r⟩:=x;exact⟨mA,⟨l,es,g,k _ _ (.inl rfl) e,c⟩,r⟩
 | rng I q=>obtain⟨t,u,v,e⟩:=x;exact⟨t,u,v,k _ _ (.inl rfl) e⟩
 | frz m u B=>obtain⟨e,s⟩:=x;exact⟨k _ _ (.inl rfl) e,B s⟩
 | tbl ps=>have e:h.get? a=some { cls:=.none,data:=.fields ps }:=x;show h'.get? a=some { cls:=.none,data:=.fields ps };exact k a _ (.inl rfl) e
 | met f y=>have e:h.get? a=some (PySem.W.methodObj (.ref f) (.ref y)):=x;show h'.get? a=some (PySem.W.methodObj (.ref f) (.ref y));exact k a _ (.inl rfl) e
 | ext G=>obtain⟨p,⟨o,e⟩,st⟩:=x;exact⟨st _ _ p fun o s=>k _ _ (.inl rfl) s,⟨o,k _ _ (.inl rfl) e⟩,st⟩
theorem jH.lt (x:jH P w H h) (e:H a=some o):a < h.objs.size:=(x a o e).lt
theorem jH.fresh (x:jH P w H h) (e:h.objs.size≤a):H a=none:=by
 cases q:H a with
 | none=>rfl
 | some u=>exact absurd (cq (x.lt q) e) (i5 _)
theorem jH.kept (x:jH P w H h) (k:∀b u,h.get? b=some u->h'.get? b=some u):jH P w H h':=fun a o e=>
 (x a o e).stay (fun b u _ q=>k b u q) (fun _ q=>q) fun _ _ q=>q
theorem jH.laid (x:jH P w H h) (k:∀b u,h.get? b=some u->h'.get? b=some u) (p:h.objs.size≤a) (n:ci P w (cm H a o) h' a o):jH P w (cm H a o) h':=fun b u e=>by
 have f:=x.fresh p;by_cases s:b=a
 .subst s;rw [aN] at e;cases e;exact n
 .rw [aE s] at e;exact (x b u e).stay (fun c v _ q=>k c v q) (fun c q=>by rw [aE (cM q f)];exact q) fun c xs q=>by rw [aE (cM q f)];exact q
end
noncomputable def Rd (H:Hp) (a:Addr) (u:HO):Prop:=H a=some u\/∃o,H a=some (.frz o u)
theorem Rd.ok {P:Program}{w:World}{H:Hp}{h:Heap}{a:Addr}{u:HO} (r:Rd H a u) (x:jH P w H h):ci P w H h a u:=by
 rcases r with r | ⟨o,r⟩
 .exact x a u r
 .obtain⟨_,q⟩:=x a _ r;exact q
noncomputable def He:Option HO->Prop
 | some (.lst _)=>True
 | some (.dK _)=>True
 | some (.dT _)=>True
 | some (.set _ _)=>True
 | some (.ins _ _ _)=>True
 | some (.ext _)=>True
 | _=>False
section
variable {P:Program}{w:World}{H:Hp}{h h':Heap}{x e:Addr}{o':HO}
theorem jH.write (ok:jH P w H h) (m:He (H x)) (d:e=x\/H e=some (.own x)) (k:∀b u,b≠e->h.get? b=some u->h'.get? b=some u) (o:∃u,h'.get? e=some u)
  (p:ci P w (cm H x o') h' x o'):jH P w (cm H x o') h':=fun b u q=>by
 have n:∀c y,H c=some (.own y)->c≠x:=fun c y r z=>by subst z;rw [r] at m;exact m
 have t:∀c xs,H c=some (.tup xs)->c≠x:=fun c xs r z=>by subst z;rw [r] at m;exact m
 by_cases s:b=x
 .subst s;rw [aN] at q;cases q;exact p
 .rw [aE s] at q;by_cases a:b=e
  .have g:H b=some (.own x):=by
    rcases d with z | z
    .exact absurd (a.trans z) s
    .rw [a];exact z
   rw [q] at g;cases g;obtain⟨v,i⟩:=o;exact⟨v,by rw [a];exact i⟩
  .refine (ok b u q).stay (fun c v f r=>k c v ?_ r) (fun c r=>by rw [aE (n c b r)];exact r) fun c xs r=>by rw [aE (t c xs r)];exact r
   rcases f with rfl | f
   .exact a
   .rintro rfl;rcases d with z | z
    .exact n c b f z
    .rw [f] at z;cases z;exact s rfl
end
structure Un (fs ex:List Addr) (H H':Hp) (h h':Heap):Prop where
 keep:∀b o,h.get? b=some o->H b=none->b ∉ fs->b ∉ ex->h'.get? b=some o
 slot:∀b o,h.get? b=some o->H b=none->b ∈ fs->b ∉ ex->∃sl,h'.get? b=some { o with slots:=sl }
 free:∀b o,h.get? b=some o->H b=none->b ∉ ex->H' b=none
 there:∀b o,h.get? b=some o->b ∉ ex->∃o',h'.get? b=some o'
 tups:∀b xs,H b=some (.tup xs)->H' b=some (.tup xs)
 frzs:∀b o u,H b=some (.frz o u)->H' b=some (.frz o u)
 tbls:∀b ps,H b=some (.tbl ps)->∃more,H' b=some (.tbl (ps++more))
section
variable {fs fs' ex ex':List Addr}{H U H2:Hp}{h J h2 h':Heap}{a x e:Addr}{o:HO}
theorem Un.any (u:Un fs ex H U h J) (q:h.get? b=some N) (n:H b=none) (a:b ∉ ex):∃s,J.get? b=some { N with slots:=s }:=by
 by_cases x:b ∈ fs
 .exact u.slot b N q n x a
 .exact⟨N.slots,u.keep b N q n x a⟩
theorem Un.kept (k:∀b u,h.get? b=some u->h'.get? b=some u):Un fs ex H H h h':=
 ⟨fun b o q _ _ _=>k b o q,fun b o q _ _ _=>⟨o.slots,k b o q⟩,fun _ _ _ n _=>n,fun b o q _=>⟨o,k b o q⟩,fun _ _ q=>q,fun _ _ _ q=>q,fun _ ps q=>⟨#[],by rw [q];simp⟩⟩
theorem Un.refl:Un fs ex H H h h:=Un.kept fun _ _ q=>q
theorem Un.laid (k:∀b u,h.get? b=some u->h'.get? b=some u) (p:h.objs.size≤a) (x:H a=none):Un fs ex H (cm H a o) h h' where
 keep:=fun b u q _ _ _=>k b u q
 slot:=fun b u q _ _ _=>⟨u.slots,k b u q⟩
 free:=fun b u q n _=>by rw [aE (b_ (cq (Heap.lt_size q) p))];exact n
 there:=fun b u q _=>⟨u,k b u q⟩
 tups:=fun b xs q=>by rw [aE (cM q x)];exact q
 frzs:=fun b u xs q=>by rw [aE (cM q x)];exact q
 tbls:=fun b ps q=>⟨#[],by rw [aE (cM q x),q];simp⟩
theorem Un.write (m:He (H x)) (p:e=x\/H e=some (.own x)) (k:∀b u,b≠e->h.get? b=some u->h'.get? b=some u) (s:∃u,h'.get? e=some u):Un fs ex H (cm H x o) h h':=by
 have t:∀b,H b=none->b≠x:=fun b n z=>by subst z;rw [n] at m;exact m
 have c:∀b,H b=none->b≠e:=fun b n z=>by
  subst z;rcases p with r | r
  .exact t b n r
  .rw [n] at r;cases r
 have f:∀b u,H b=some u->¬He (some u)->b≠x:=fun b u q nm z=>by subst z;rw [q] at m;exact nm m
 refine⟨fun b u q n _ _=>k b u (c b n) q,fun b u q n _ _=>⟨u.slots,k b u (c b n) q⟩,fun b u q n _=>by rw [aE (t b n)];exact n,fun b u q _=>?_,
  fun b xs q=>by rw [aE (f b _ q fun z=>z)];exact q,fun b u xs q=>by rw [aE (f b _ q fun z=>z)];exact q,fun b ps q=>⟨#[],by rw [aE (f b _ q fun z=>z),q];simp⟩⟩
 by_cases a:b=e
 .subst a;exact s
 .exact⟨u,k b u a q⟩
end
noncomputable def trk (h:Heap) (H:Hp):List Addr:=(List.range h.objs.size).filter fun a=>(H a).isSome
noncomputable def qK (h:Heap) (H:Hp):Heap:=PySem.W.hideAll h (trk h H)
theorem xg (h:Heap) (H:Hp):(qK h H).objs.size=h.objs.size:=PySem.W.hideAll_size _ _
variable {o:Obj}
theorem zq (e:h.get? b=some o) (n:H b=none):(qK h H).get? b=some o:=
 PySem.W.hideAll_get _ e fun m=>by have q:(H b).isSome=true:=(fu.mp m).2;rw [n] at q;simp at q
theorem A2 (e:(qK h H).get? b=some o):h.get? b=some o/\H b=none:=by
 have a:h.get? b=some o:=PySem.W.of_hideAll (trk h H) e;refine⟨a,?_⟩;cases q:H b with
 | none=>rfl
 | some x=>have m:b ∈ trk h H:=fu.mpr ⟨jX.mpr (Heap.lt_size a),by simp [q]⟩;have z:(qK h H).get? b=none:=PySem.W.hideAll_none (trk h H) m;rw [z] at e;cases e
noncomputable def jC (g h:Heap) (L:Addr):PN:=(List.range h.objs.size).filterMap fun a=>if a=L\/(g.get? a).isSome=true then none else (h.get? a).map fun o=>(a,o)
variable {g:Heap}{L:Addr}
theorem sG (J:a≠L) (h2:g.get? a=none) (x:h.get? a=some o):(a,o) ∈ jC g h L:=
 pN.mpr ⟨a,jX.mpr (Heap.lt_size x),by simp [J,h2,x]⟩
theorem nr (x:p ∈ jC g h L):p.1≠L/\g.get? p.1=none/\h.get? p.1=some p.2:=by
 obtain⟨b,_,e⟩:=pN.mp x;split at e
 .cases e
 .rename_i n;cases q:h.get? b with
  | none=>rw [q] at e;simp at e
  | some u=>
   rw [q] at e;simp only [Option.map_some,Option.some.injEq] at e;subst e;refine⟨fun z=>n (.inl z),?_,q⟩;show g.get? b=none;cases r:g.get? b with
   | none=>rfl
   | some v=>exact (n (.inr (by simp [r]))).elim
noncomputable def cu (g h:Heap) (L d:Addr):PN:=(jC g h L).filter fun p=>decide (p.1≠d)
theorem sC:News g L h (jC g h L):=fun p x=>let ⟨a,b,c⟩:=nr x;⟨c,a,b⟩
structure Mod (K:FG) (mg:SV) (base:Heap):Prop where
 kin:K.In base
 glob:base.Ns mainGlobals mg
 blt:∃mb,base.Ns builtinsNs mb/\∀x:Str,x≠"__name__"->mb x=bootBuiltins x
 nolimit:base.NoLimit
structure Cx where
 prog:Program
 w:World
 K:FG
 mg:SV
 base:Heap
 A:Around
 N:LS
 s₀:Shared
 H₀:Hp
 env:Env
 outer:List Env
 stack:List Env
 ex:List Addr
 fn:Str->Bool
 calm:Bool
 pn:PN
 xe:VP
noncomputable def zv (l:List Env):List Addr:=l.filterMap (·.frame)
noncomputable abbrev Cx.fs (X:Cx):List Addr:=zv X.outer
noncomputable def Ed (sc:Scope) (x:Str):Prop:=sc.names.lookup x=some .local\/sc.names.lookup x=some .cell\/sc.names.lookup x=some .free
noncomputable def Loc (sc:Scope) (x:Str):Prop:=sc.names.lookup x=some .local\/sc.names.lookup x=some .cell
noncomputable def Look (e:Env) (h:Heap) (m:SV) (x:Str) (u:Value):Prop:=
 (e.kindOf x=some .local/\m x=some u)\/((e.kindOf x=some .cell\/e.kindOf x=some .free)/\∃c,e.cells.lookup x=some c/\h.IsCell c (some u))
structure Cx.Ok (X:Cx):Prop where
 mod:Mod X.K X.mg X.base
 kind:X.env.scope.kind=.function
 glob:X.env.globals=mainGlobals
 blt:X.env.builtins=builtinsNs
 above:X.s₀.heap.objs.size≤X.env.locals
 inj:∀x y c,X.env.cells.lookup x=some c->X.env.cells.lookup y=some c->x=y
 has:∀x,(X.env.kindOf x=some .cell\/X.env.kindOf x=some .free)->∃c,X.env.cells.lookup x=some c
 cab:∀x c,X.fn x=true->X.env.cells.lookup x=some c->X.s₀.heap.objs.size≤c
 hd:X.calm=true->X.A.handled=none
 frames:X.A.frames=some X.stack
 stk:X.stack=X.outer\/(X.stack=X.env::X.outer/\X.env.frame=some X.env.locals)
 exf:∀b ∈ X.ex,b≠X.env.locals/\∀x c,X.env.cells.lookup x=some c->c≠b
 bs:∀b o,X.base.get? b=some o->X.s₀.heap.get? b=some o/\X.H₀ b=none
 bsz:X.base.objs.size≤X.s₀.heap.objs.size
 noex:∀b o,X.base.get? b=some o->b ∉ X.ex
 exfs:∀b ∈ X.ex,b ∉ X.fs
 funs:X.s₀.heap.FunFrames X.base X.outer
 frf:∀b ∈ X.fs,X.H₀ b=none
structure Inv (X:Cx) (pins:PN) (σ:List (Option V)) (H:Hp) (s:Shared):Prop where
 ok:X.Ok
 os:s.os=X.s₀.os
 bare:AllBare s.gens
 base:Un X.fs X.ex X.H₀ H X.s₀.heap s.heap
 loc:∃m,s.heap.Ns X.env.locals m/\∀(i:Nat) (x:Str) (v:V),X.N[i]? = some x->σ[i]? = some (some v)->Ed X.env.scope x->∃u,RelV v u/\Look X.env s.heap m x u
 cell:∀x c,X.env.cells.lookup x=some c->∃v,s.heap.IsCell c v
 free:H X.env.locals=none
 freeC:∀x c,X.env.cells.lookup x=some c->H c=none
 pin:∀p ∈ X.pn++pins,s.heap.get? p.1=some p.2/\H p.1=none/\p.1≠X.env.locals/\p.1 ∉ X.fs/\∀v,p.2.data≠.cell v
 hok:jH X.prog X.w H s.heap
 len:σ.length=X.N.length
section
variable {X:Cx}{B:PN}{G:List (Option V)}{H H':Hp}{s:Shared}{h':Heap}
theorem Cx.Ok.nofr (ok:X.Ok) (e:X.base.get? b=some o):b ∉ X.fs:=fun h=>by have:=(ok.funs.mem h).1;rw [e] at this;cases this
theorem Inv.bs (I:Inv X B G H s):∀b o,X.base.get? b=some o->s.heap.get? b=some o/\H b=none:=fun b o e=>
 ⟨I.base.keep b o (I.ok.bs b o e).1 (I.ok.bs b o e).2 (I.ok.nofr e) (I.ok.noex b o e),I.base.free b o (I.ok.bs b o e).1 (I.ok.bs b o e).2 (I.ok.noex b o e)⟩
theorem Inv.bk (I:Inv X B G H s):∀b o,X.base.get? b=some o->s.heap.get? b=some o:=fun b o e=>(I.bs b o e).1
theorem Inv.mod (I:Inv X B G H s):Mod X.K X.mg X.base:=I.ok.mod
theorem Inv.kIn (I:Inv X B G H s):X.K.In s.heap:=I.ok.mod.kin.keeps I.bk
theorem Inv.fr (I:Inv X B G H s):∃m,Fr X.base X.env.locals s.heap m:=
 let ⟨m,h,_⟩:=I.loc
 ⟨m,h,I.bk,aU I.ok.bsz I.ok.above⟩
theorem Inv.lt (I:Inv X B G H s):X.env.locals < s.heap.objs.size:=let ⟨_,h,_⟩:=I.loc;h.lt
theorem Inv.sz (I:Inv X B G H s):X.s₀.heap.objs.size≤s.heap.objs.size:=aU I.ok.above (il I.lt)
theorem Inv.nofs (I:Inv X B G H s) (h:s.heap.objs.size≤a):a ∉ X.fs:=fun b=>by obtain⟨_,o,x,_⟩:=I.ok.funs.mem b;exact absurd (cq (Heap.lt_size x) (aU I.sz h)) (i5 _)
theorem Inv.cne (I:Inv X B G H s):∀x c,X.env.cells.lookup x=some c->c≠X.env.locals:=fun x c e z=>by obtain⟨v,o,n,hd⟩:=I.cell x c e;obtain⟨m,⟨o',es,p,a,h,_⟩,_⟩:=I.loc;rw [z,a] at n;cases n;rw [h] at hd;cases hd
theorem Inv.funs (I:Inv X B G H s):s.heap.FunFrames X.base X.outer:=by
 have all:∀(l:List Env),(∀b ∈ zv l,b ∈ X.fs)->X.s₀.heap.FunFrames X.base l->s.heap.FunFrames X.base l:=by
  intro l;induction l with
  | nil=>intro _ _;trivial
  | cons n r i=>
   intro a c;obtain⟨k,⟨L,o,f,m,t,hd⟩,p⟩:=c;have h:L ∈ X.fs:=a L (by unfold zv;rw [p9,f];exact List.mem_cons_self);obtain⟨q,e⟩:=I.base.slot L o t (I.ok.frf L h) h fun z=>I.ok.exfs L z h
   exact⟨k,⟨L,_,f,m,e,hd⟩,i (fun b x=>a b (by unfold zv;rw [p9,f];exact bg _ x)) p⟩
 exact all X.outer (fun _ x=>x) I.ok.funs
theorem Inv.stack (I:Inv X B G H s):s.heap.FunFrames X.base X.stack:=by
 rcases I.ok.stk with e | ⟨e,h⟩
 .rw [e];exact I.funs
 .rw [e];obtain⟨m,n,_⟩:=I.loc;refine .cons (by rw [I.ok.kind];decide) h n ?_ I.funs;exact Heap.get?_none_of_le (aU I.ok.bsz I.ok.above)
theorem Inv.stkSub (I:Inv X B G H s):∀b ∈ zv X.stack,b ∈ X.env.locals::X.fs:=fun b h=>by
 rcases I.ok.stk with e | ⟨e,f⟩
 .rw [e] at h;exact bg _ h
 .rw [e] at h;unfold zv at h;rw [p9,f] at h;exact h
theorem Inv.stkFree (I:Inv X B G H s):∀b ∈ zv X.stack,H b=none:=fun b h=>by
 rcases az.mp (I.stkSub b h) with e | h
 .rw [e];exact I.free
 .obtain⟨_,o,x,_⟩:=I.ok.funs.mem h;exact I.base.free b o x (I.ok.frf b h) fun z=>I.ok.exfs b z h
theorem Inv.step {g':Array GenState}{t':Nat}{d':Drawn}{ch:List Addr} (I:Inv X B G H s)
  (a:∀b ∈ ch,(b ∈ X.ex\/X.s₀.heap.objs.size≤b)/\b≠X.env.locals/\(∀x c,X.env.cells.lookup x=some c->c≠b)/\∀p ∈ X.pn++B,p.1≠b)
  (t:∀b o,b≠X.env.locals->b ∉ X.fs->b ∉ ch->s.heap.get? b=some o->H b=none->h'.get? b=some o)
  (slot:∀b o,b≠X.env.locals->b ∈ X.fs->b ∉ ch->s.heap.get? b=some o->H b=none->∃J,h'.get? b=some { o with slots:=J }) (f:∀b o,b ∉ ch->s.heap.get? b=some o->H b=none->H' b=none)
  (y:∀b o,b ∉ ch->s.heap.get? b=some o->∃o',h'.get? b=some o')
  (D:∀b xs,H b=some (.tup xs)->H' b=some (.tup xs)) (P:∀b o u,H b=some (.frz o u)->H' b=some (.frz o u)) (A:∀b ps,H b=some (.tbl ps)->∃more,H' b=some (.tbl (ps++more)))
  (ns:∀m,s.heap.Ns X.env.locals m->h'.Ns X.env.locals m) (E:jH X.prog X.w H' h') (U:AllBare g') :
  Inv X B G H' { s with heap:=h',gens:=g',drawn:=d',toks:=t' }:=by
 have L:∀b o,X.s₀.heap.get? b=some o->b≠X.env.locals:=fun b o e=>b_ (cq (Heap.lt_size e) I.ok.above);have C:∀b o,X.s₀.heap.get? b=some o->b ∉ X.ex->b ∉ ch:=fun b o e h j=>by
  rcases (a b j).1 with z | z
  .exact h z
  .exact absurd (cq (Heap.lt_size e) z) (i5 _)
 have K:∀x c,X.env.cells.lookup x=some c->∀v,s.heap.IsCell c v->h'.IsCell c v:=fun x c e v Y=>by
  obtain⟨o,S,hd⟩:=Y;have w:c ∉ ch:=fun z=>(a c z).2.2.1 x c e rfl;by_cases N:c ∈ X.fs
  .obtain⟨J,q⟩:=slot c o (I.cne x c e) N w S (I.freeC x c e);exact⟨_,q,hd⟩
  .exact⟨o,t c o (I.cne x c e) N w S (I.freeC x c e),hd⟩
 refine⟨I.ok,I.os,U,⟨fun b o e n j h=>?_,fun b o e n j h=>?_,fun b o e n h=>?_,fun b o e h=>?_,fun b xs e=>D b xs (I.base.tups b xs e),fun b o xs e=>P b o xs (I.base.frzs b o xs e),fun b ps e=>?_⟩,?_,fun x c e=>?_,?_,fun x c e=>?_,fun p O=>?_,E,I.len⟩
 .exact t b o (L b o e) j (C b o e h) (I.base.keep b o e n j h) (I.base.free b o e n h)
 .obtain⟨J,g⟩:=I.base.slot b o e n j h;obtain⟨M,F⟩:=slot b _ (L b o e) j (C b o e h) g (I.base.free b o e n h);exact⟨M,F⟩
 .obtain⟨o',g⟩:=I.base.there b o e h;exact f b o' (C b o e h) g (I.base.free b o e n h)
 .obtain⟨o',g⟩:=I.base.there b o e h;exact y b o' (C b o e h) g
 .obtain⟨Z,g⟩:=I.base.tbls b ps e;obtain⟨m2,F⟩:=A b _ g;exact⟨Z++m2,by rw [F,Array.append_assoc]⟩
 .obtain⟨m,W,V⟩:=I.loc;refine⟨m,ns m W,fun i x v g F T=>?_⟩;obtain⟨u,r,l⟩:=V i x v g F T;refine⟨u,r,?_⟩;rcases l with l | ⟨k,c,e,z⟩
  .exact .inl l
  .exact .inr ⟨k,c,e,K x c e _ z⟩
 .obtain⟨v,z⟩:=I.cell x c e;exact⟨v,K x c e v z⟩
 .obtain⟨m,⟨o,_,_,S,_⟩,_⟩:=I.loc;exact f _ o (fun z=>(a _ z).2.1 rfl) S I.free
 .obtain⟨v,o,S,hd⟩:=I.cell x c e;exact f c o (fun z=>(a c z).2.2.1 x c e rfl) S (I.freeC x c e)
 .obtain⟨e,n,Q,R,d⟩:=I.pin p O;have w:p.1 ∉ ch:=fun z=>(a p.1 z).2.2.2 p O rfl;exact⟨t p.1 p.2 Q R w e n,f p.1 p.2 w e n,Q,R,d⟩
theorem Inv.un {t':Nat} (I:Inv X B G H s) (u:Un X.fs [] H H' s.heap h') (k:jH X.prog X.w H' h'):Inv X B G H' { s with heap:=h',toks:=t' }:=by
 obtain⟨m,⟨o,es,q,f,r⟩,_⟩:=id I.loc;obtain⟨l,L⟩:=u.any f I.free (by simp);exact I.step (g':=s.gens) (d':=s.drawn) (ch:=[]) (fun _ z=>nomatch z) (fun b o _ a _ e n=>u.keep b o e n a (by simp)) (fun b o _ a _ e n=>u.slot b o e n a (by simp)) (fun b o _ e n=>u.free b o e n (by simp)) (fun b o _ e=>u.there b o e (by simp)) u.tups u.frzs u.tbls (fun v c=>by obtain⟨o',x,p,h,t⟩:=c;rw [f] at h;cases h;exact⟨_,x,p,L,t⟩) k I.bare
theorem Inv.call {g':Array GenState}{t':Nat}{d':Drawn}{ch:List Addr} (I:Inv X B G H s) (u:Un (zv X.stack) ch H H' s.heap h') (q:jH X.prog X.w H' h') (g:AllBare g')
  (a:∀b ∈ ch,(b ∈ X.ex\/X.s₀.heap.objs.size≤b)/\b≠X.env.locals/\(∀x c,X.env.cells.lookup x=some c->c≠b)/\∀p ∈ X.pn++B,p.1≠b) :
  Inv X B G H' { s with heap:=h',gens:=g',drawn:=d',toks:=t' }:=by
 obtain⟨m,⟨o,es,j,v,r⟩,_⟩:=id I.loc;obtain⟨y,L⟩:=u.any v I.free fun z=>(a _ z).2.1 rfl;exact I.step (ch:=ch) a (fun b o L d h e n=>u.keep b o e n (fun z=>(az.mp (I.stkSub b z)).elim L d) h) (fun b o _ _ h e n=>u.any e n h) (fun b o h e n=>u.free b o e n h) (fun b o h e=>u.there b o e h) u.tups u.frzs u.tbls (fun l w=>by obtain⟨o',t,f,k,i⟩:=w;rw [v] at k;cases k;exact⟨_,t,f,L,i⟩) q g
theorem Inv.turned {t':Nat}{i:Addr} (I:Inv X B G H s) (k:∀b o,b≠i->s.heap.get? b=some o->h'.get? b=some o) (g:H i=none) (L:i≠X.env.locals)
  (J:i ∈ X.ex\/X.s₀.heap.objs.size≤i) (h2:∀x c,X.env.cells.lookup x=some c->c≠i) (f:∀p ∈ X.pn++B,p.1≠i):Inv X B G H { s with heap:=h',toks:=t' }:=by
 have t:∀b u,H b=some u->b≠i:=fun b u e z=>by rw [z,g] at e;cases e
 refine I.step (g':=s.gens) (d':=s.drawn) (ch:=[i]) (fun b d=>?_) (fun b o _ _ h e _=>k b o (fun z=>h (by simp [z])) e) (fun b o _ _ h e _=>⟨o.slots,k b o (fun z=>h (by simp [z])) e⟩) (fun _ _ _ _ n=>n)
  (fun b o h e=>⟨o,k b o (fun z=>h (by simp [z])) e⟩) (fun _ _ e=>e) (fun _ _ _ e=>e) (fun b ps e=>⟨#[],by rw [e];simp⟩) (fun m w=>?_) (fun b u e=>?_) I.bare
 .have e:b=i:=by simpa using d
  subst e;exact⟨J,L,h2,f⟩
 .obtain⟨o,es,a,j,r⟩:=w;exact⟨o,es,a,k _ o (Ne.symm L) j,r⟩
 .refine (I.hok b u e).stay (fun c v h q=>k c v ?_ q) (fun _ q=>q) fun _ _ q=>q;rcases h with z | z
  .rw [z];exact t b u e
  .exact t c _ z
theorem Inv.tok (I:Inv X B G H s) (t:Nat):Inv X B G H { s with toks:=t }:=I.un (h':=s.heap) (t':=t) Un.refl I.hok
theorem Inv.kept {t':Nat} (I:Inv X B G H s) (k:∀b u,s.heap.get? b=some u->h'.get? b=some u):Inv X B G H { s with heap:=h',toks:=t' }:=I.un (Un.kept k) (I.hok.kept k)
theorem Inv.laid {a:Addr}{o:HO}{t':Nat} (I:Inv X B G H s) (k:∀b u,s.heap.get? b=some u->h'.get? b=some u) (h:s.heap.objs.size≤a) (n:ci X.prog X.w (cm H a o) h' a o) :
  Inv X B G (cm H a o) { s with heap:=h',toks:=t' }:=I.un (Un.laid k h (I.hok.fresh h)) (I.hok.laid k h n)
theorem Inv.write {x e:Addr}{o:HO}{t:Nat} (I:Inv X B G H s) (m:He (H x)) (a:e=x\/H e=some (.own x)) (k:∀b u,b≠e->s.heap.get? b=some u->h'.get? b=some u) (h:∃u,h'.get? e=some u)
  (n:ci X.prog X.w (cm H x o) h' x o):Inv X B G (cm H x o) { s with heap:=h',toks:=t }:=I.un (Un.write m a k h) (I.hok.write m a k h n)
theorem Inv.pins_of (I:Inv X B G H s) (h:∀p ∈ N,s.heap.get? p.1=some p.2/\H p.1=none/\p.1≠X.env.locals/\p.1 ∉ X.fs/\∀v,p.2.data≠.cell v):Inv X N G H s:=
 ⟨I.ok,I.os,I.bare,I.base,I.loc,I.cell,I.free,I.freeC,fun p x=>(dL.mp x).elim (fun z=>I.pin p (jb _ z)) (h p),I.hok,I.len⟩
theorem sv {N:LS} (s:N.Nodup) {i j:Nat}{x:Str} (a:N[i]? = some x) (b:N[j]? = some x):i=j:=by obtain⟨J,e⟩:=List.getElem?_eq_some_iff.mp a;obtain⟨h2,h⟩:=List.getElem?_eq_some_iff.mp b;exact (List.getElem_inj s).mp (e.trans h.symm)
theorem oU {M:Model}{A:Around}{E:VP}{i:Nat}{x:Str}{v:V}{u:Value}{Q:Unit->Shared->Prop} (I:Inv X B G H s) (hN:X.N.Nodup) (q:X.N[i]? = some x) (F:Loc X.env.scope x) (r:RelV v u)
  (h:∀z,Inv X B (G.set i (some v)) H z->(∃a,Heap.SameBut a s.heap z.heap/\(a=X.env.locals\/X.env.cells.lookup x=some a))->Q () z) (hf:X.fn x=true\/X.env.scope.names.lookup x=some .local:=by first | exact .inl rfl | exact .inr rfl | assumption):wpAny M A (storeName X.env x u) Q E s:=by
 obtain⟨m,hn,hl⟩:=id I.loc;have U:(X.env.scope.kind == .class || (X.env.scope.kind == .module && X.env.locals != X.env.globals))=false:=by rw [I.ok.kind];rfl
 have C:i < G.length:=by rw [I.len];exact (List.getElem?_eq_some_iff.mp q).1
 have J:=I.cne;have l:∀{a:Addr}{h':Heap},(∃o,s.heap.get? a=some o/\H a=none)->Heap.SameBut a s.heap h'->jH X.prog X.w H h':=fun {a h'} ha w b ob e=>by
  obtain⟨_,_,K⟩:=ha;refine (I.hok b ob e).stay (fun c w' S f=>(w.2 c ?_).trans f) (fun _ f=>f) fun _ _ f=>f;rintro rfl;rcases S with rfl | S
  .rw [K] at e;cases e
  .rw [K] at S;cases S
 rcases F with D | D
 .refine wpAny_storeName_local D hn (fun h' hn' w=>?_) U;obtain⟨oL,_,_,hoL,_⟩:=id hn;refine h _ ⟨I.ok,I.os,I.bare,⟨fun b o e n L F=>?_,fun b o e n L F=>?_,I.base.free,fun b o e F=>?_,I.base.tups,I.base.frzs,I.base.tbls⟩,⟨_,hn',fun j y v' g P e3=>?_⟩,fun y c e=>?_,I.free,I.freeC,fun p hp=>?_,l ⟨oL,hoL,I.free⟩ w,by simpa using I.len⟩ ⟨_,w,.inl rfl⟩
  .exact (w.2 b (b_ (cq (Heap.lt_size e) I.ok.above))).trans (I.base.keep b o e n L F)
  .obtain⟨sl,g⟩:=I.base.slot b o e n L F;exact⟨sl,(w.2 b (b_ (cq (Heap.lt_size e) I.ok.above))).trans g⟩
  .obtain⟨o',g⟩:=I.base.there b o e F;exact⟨o',(w.2 b (b_ (cq (Heap.lt_size e) I.ok.above))).trans g⟩
  .by_cases O:j=i
   .subst O;rw [q] at g;cases g;rw [cL C] at P;cases P;exact⟨u,r,.inl ⟨D,by simp⟩⟩
   .rw [bt (Ne.symm O)] at P;obtain⟨u',r',f⟩:=hl j y v' g P e3;refine⟨u',r',?_⟩;rcases f with ⟨k,e⟩ | ⟨k,c,e,t⟩
    .refine .inl ⟨k,?_⟩;have:y≠x:=fun e=>O (sv hN g (e ▸ q));simp [this,e]
    .exact .inr ⟨k,c,e,t.sameBut w (J y c e)⟩
  .obtain⟨w',t⟩:=I.cell y c e;exact⟨w',t.sameBut w (J y c e)⟩
  .obtain⟨e,n,ne,nf,d⟩:=I.pin p hp;exact⟨(w.2 p.1 ne).trans e,n,ne,nf,d⟩
 .have N:X.fn x=true:=by
   rcases hf with t | t
   .exact t
   .rw [t] at D;cases D
  obtain⟨c,S⟩:=I.ok.has x (.inl D);obtain⟨w',t⟩:=I.cell x c S;refine wpAny_storeName_cell I.ok.kind D S t (fun h' R w=>?_);obtain⟨oc,W,Y⟩:=id t;refine h { s with heap:=h' } ⟨I.ok,I.os,I.bare,⟨fun b o e n L F=>?_,fun b o e n L F=>?_,I.base.free,fun b o e F=>?_,I.base.tups,I.base.frzs,I.base.tbls⟩,⟨m,hn.sameBut w (Ne.symm (J x c S)),fun j y v' g P e3=>?_⟩,fun y Z e=>?_,I.free,I.freeC,fun p hp=>?_,l ⟨oc,W,I.freeC x c S⟩ w,by simpa using I.len⟩ ⟨c,w,.inr S⟩
  .exact (w.2 b (b_ (cq (Heap.lt_size e) (I.ok.cab x c N S)))).trans (I.base.keep b o e n L F)
  .obtain⟨sl,g⟩:=I.base.slot b o e n L F;exact⟨sl,(w.2 b (b_ (cq (Heap.lt_size e) (I.ok.cab x c N S)))).trans g⟩
  .obtain⟨o',g⟩:=I.base.there b o e F;exact⟨o',(w.2 b (b_ (cq (Heap.lt_size e) (I.ok.cab x c N S)))).trans g⟩
  .by_cases O:j=i
   .subst O;rw [q] at g;cases g;rw [cL C] at P;cases P;exact⟨u,r,.inr ⟨.inl D,c,S,R⟩⟩
   .rw [bt (Ne.symm O)] at P;obtain⟨u',r',f⟩:=hl j y v' g P e3;refine⟨u',r',?_⟩;rcases f with f | ⟨k,Z,e,z'⟩
    .exact .inl f
    .refine .inr ⟨k,Z,e,z'.sameBut w ?_⟩;rintro rfl;exact O (sv hN g (I.ok.inj _ _ _ e S ▸ q))
  .by_cases T:Z=c
   .subst T;exact⟨_,R⟩
   .obtain⟨w2,z2⟩:=I.cell y Z e;exact⟨w2,z2.sameBut w T⟩
  .obtain⟨e,n,ne,nf,d⟩:=I.pin p hp;refine⟨(w.2 p.1 ?_).trans e,n,ne,nf,d⟩;intro f;rw [f,W] at e;have q':oc=p.2:=Option.some.inj e;exact d w' (by rw [<- q'];exact Y)
theorem sg (I:Inv X B G H s) (N:X.N.Nodup) (q:X.N[i]? = some x) (e:Loc X.env.scope x) (r:RelV v u)
  (h:∀z,Inv X B (G.set i (some v)) H z->Q () z) (f:X.fn x=true\/X.env.scope.names.lookup x=some .local:=by first | exact .inl rfl | exact .inr rfl | assumption):wpAny M A (storeName X.env x u) Q E s:=
 oU I N q e r (fun z a _=>h z a) f
theorem Inv.call' (I:Inv X B G H s) (n:z.os=s.os) (u:Un (zv X.stack) N H H' s.heap z.heap) (o:jH X.prog X.w H' z.heap) (a:AllBare z.gens)
  (h:∀b ∈ N,(b ∈ X.ex\/X.s₀.heap.objs.size≤b)/\b≠X.env.locals/\(∀x c,X.env.cells.lookup x=some c->c≠b)/\∀p ∈ X.pn++B,p.1≠b):Inv X B G H' z:=by
 obtain⟨h',g,d,t,o'⟩:=z;have e:o'=s.os:=n;subst e;exact I.call (g':=g) (t':=t) (d':=d) u o a h
end
noncomputable abbrev XK:=Value->Option Addr->Hp->Prop
noncomputable abbrev St:=List (Option V)
noncomputable abbrev VK:=V->Hp->Prop
noncomputable abbrev TE:=St->Hp->VK->Prop
noncomputable abbrev TT:=St->Hp->(Bool->Hp->Prop)->Prop
noncomputable abbrev TA:=St->Hp->(List V->Hp->Prop)->Prop
structure Ends where
 nx:St->Hp->Prop
 rt:VK
 bk:St->Hp->Prop:=fun _ _=>False
 ct:St->Hp->Prop:=fun _ _=>False
noncomputable abbrev TS:=Ends->St->Hp->Prop
noncomputable def EP (X:Cx) (B:PN) (G:St) (Q:VK) (u:Value) (z:Shared):Prop:=∃v H',Inv X B G H' z/\RelV v u/\Q v H'
noncomputable def TP (X:Cx) (B:PN) (G:St) (Q:Bool->Hp->Prop) (b:Bool) (z:Shared):Prop:=∃H',Inv X B G H' z/\Q b H'
noncomputable def AP (X:Cx) (B:PN) (G:St) (Q:List V->Hp->Prop) (Y:LV) (z:Shared):Prop:=∃v H',Inv X B G H' z/\aQ v Y/\Q v H'
noncomputable def SP (X:Cx) (B:PN) (D:Ends) (f:Flow) (z:Shared):Prop:=
 match f with
 | .next=>∃h H',Inv X B h H' z/\D.nx h H'
 | .brk=>∃h H',Inv X B h H' z/\D.bk h H'
 | .cont=>∃h H',Inv X B h H' z/\D.ct h H'
 | .ret u=>∃v h H',Inv X B h H' z/\RelV v u/\D.rt v H'
noncomputable def PE (X:Cx) (e:Expr) (t:TE):Prop:=
 ∀(B:PN) (s:Shared) (G:St) (H:Hp) (Q:VK),Inv X B G H s->t G H Q->wpAny (model X.prog X.w) X.A (eval e X.env) (EP X B G Q) X.xe s
noncomputable def PT (X:Cx) (e:Expr) (t:TT):Prop:=
 ∀(B:PN) (s:Shared) (G:St) (H:Hp) (Q:Bool->Hp->Prop),Inv X B G H s->t G H Q->wpAny (model X.prog X.w) X.A (isTrue e X.env (eval e X.env)) (TP X B G Q) X.xe s
noncomputable def PW (X:Cx) (e:Expr) (t:TT):Prop:=
 ∀(w:Sem Value) (B:PN) (s:Shared) (G:St) (H:Hp) (Q:Bool->Hp->Prop),Inv X B G H s->t G H Q->wpAny (model X.prog X.w) X.A (isTrue e X.env w) (TP X B G Q) X.xe s
variable {X:Cx}{e:Expr}
theorem PW.pt (h:PW X e t):PT X e t:=h _
noncomputable def PA (X:Cx) (es:Ab) (t:TA):Prop:=
 ∀(O:Pos) (B:PN) (s:Shared) (G:St) (H:Hp) (Q:List V->Hp->Prop),Inv X B G H s->t G H Q->wpAny (model X.prog X.w) X.A (spliced (backTo O (starEach es X.env))) (AP X B G Q) X.xe s
noncomputable def PS (X:Cx) (st:Stmt) (t:TS):Prop:=
 ∀(B:PN) (s:Shared) (G:St) (H:Hp) (D:Ends),Inv X B G H s->t D G H->wpAny (model X.prog X.w) X.A (exec st X.env) (SP X B D) X.xe s
noncomputable def mx (X:Cx) (st:List Stmt) (t:TS):Prop:=
 ∀(B:PN) (s:Shared) (G:St) (H:Hp) (D:Ends),Inv X B G H s->t D G H->wpAny (model X.prog X.w) X.A (execs st X.env) (SP X B D) X.xe s
variable {M:Model}{A:Around}{E:VP}{s:Shared}
theorem cY (h:wpAny M A t Q E s) (e:∀a s,Q a s->N a s):wpAny M A t N E s:=wpAny_mono h e fun _ _ x=>x
section
variable {X:Cx}
noncomputable def Fe (i:Nat):TE:=fun G H Q=>∃v,G[i]? = some (some v)/\Q v H
noncomputable def tC (v:V):TE:=fun _ H Q=>Q v H
theorem yA (N:X.N[i]? = some x) (q:Ed X.env.scope x) (hd:(x == ("__debug__":Str))=false:=by decide) (d:(x == ("__classdict__":Str))=false:=by decide):PE X (.Name x O) (Fe i):=by
 intro B s G H Q I h;obtain⟨v,e,h⟩:=h;obtain⟨m,p,b⟩:=I.loc;obtain⟨u,r,l⟩:=b i x v N e q;have f:EP X B G Q u s:=⟨v,H,I,r,h⟩;rcases l with ⟨k,t⟩ | ⟨k,c,n,a⟩
 .exact wpAny_Name (wpAny_loadName_local I.ok.kind k p t f) hd
 .rcases k with k | k
  .exact wpAny_Name (wpAny_loadName_cell I.ok.kind k n a f) hd
  .exact wpAny_Name (wpAny_loadName_free I.ok.kind k n a f d) hd
theorem C8 {i N O}:PE X (.Constant (.int i) N O) (tC (.int i)):=fun _ _ _ H _ I h=>wpAny_Constant_int ⟨.int i,H,I.tok _,⟨_,rfl⟩,h⟩
theorem FK {b N O}:PE X (.Constant (.bool b) N O) (tC (.bl b)):=fun _ _ _ H _ I h=>Constant_bool ⟨.bl b,H,I,rfl,h⟩
theorem C7 {N O}:PE X (.Constant .none N O) (tC .non):=fun _ _ _ H _ I h=>Constant_none ⟨.non,H,I,rfl,h⟩
theorem C4 {x N O}:PE X (.Constant (.str x) N O) (tC (.str x)):=fun _ _ _ H _ I h=>Calls.Constant_str ⟨.str x,H,I.tok _,⟨_,rfl⟩,h⟩
noncomputable def Gl (X:Cx) (x:Str):Prop:=X.env.kindOf x=some .globalImplicit
theorem qH (I:Inv X B G H s) (g:Gl X x) (m:X.mg x=some u) (h:Q u s)
  (hd:(x == ("__debug__":Str))=false:=by decide):wpAny (model X.prog X.w) X.A (eval (.Name x O) X.env) Q E s:=
 Calls.Name_function_global I.ok.kind g (Calls.loadGlobal_global (by rw [I.ok.glob];exact I.mod.glob.keeps I.bk) m h) hd
theorem j7 (I:Inv X B G H s) (g:Gl X x) (m:X.mg x=none) (v:bootBuiltins x=some u) (h:Q u s)
  (n:x≠"__name__":=by decide) (hd:(x == ("__debug__":Str))=false:=by decide):wpAny (model X.prog X.w) X.A (eval (.Name x O) X.env) Q E s:=by
 obtain⟨b,J,h2⟩:=I.mod.blt;exact Calls.Name_function_global I.ok.kind g (Calls.loadGlobal_builtin (by rw [I.ok.glob];exact I.mod.glob.keeps I.bk) m (by rw [I.ok.blt];exact J.keeps I.bk) ((h2 x n).trans v) h) hd
theorem AV (g:Gl X x) (m:X.mg x=some u) (r:RelV v u) (hd:(x == ("__debug__":Str))=false:=by decide):PE X (.Name x O) (tC v):=
 fun _ _ _ H _ I h=>qH I g m ⟨v,H,I,r,h⟩ hd
theorem AW (g:Gl X x) (m:X.mg x=none) (a:bootBuiltins x=some u) (r:RelV v u) (n:x≠"__name__":=by decide) (hd:(x == ("__debug__":Str))=false:=by decide):PE X (.Name x O) (tC v):=
 fun _ _ _ H _ I h=>j7 I g m a ⟨v,H,I,r,h⟩ n hd
noncomputable def KJ (ta tb:TE) (k:Int->Int->Hp->Prop):St->Hp->Prop:=fun G H=>ta G H fun x U=>tb G U fun y H2=>∃i j,x=.int i/\y=.int j/\k i j H2
variable {a b:Expr}{ta tb:TE}{O:Pos}
noncomputable def wK (p:Int->Int->Bool) (ta tb:TE):TE:=fun G H Q=>KJ ta tb (fun i j H2=>Q (.bl (p i j)) H2) G H
noncomputable abbrev Lq:TE->TE->TE:=wK fun i j=>decide (i < j)
noncomputable abbrev Lr:TE->TE->TE:=wK fun i j=>decide (i≤j)
noncomputable abbrev Ls:TE->TE->TE:=wK fun i j=>decide (j < i)
noncomputable abbrev Lu:TE->TE->TE:=wK fun i j=>decide (j≤i)
noncomputable abbrev KH:TE->TE->TE:=wK fun i j=>decide (i=j)
noncomputable abbrev KE:TE->TE->TE:=wK fun i j=>!decide (i=j)
variable {tA tB':TT}{cu:Ab}
noncomputable def Ja (t u:TT):TT:=fun G H Q=>t G H fun c U=>if c=true then u G U Q else Q false U
noncomputable def KD (t u:TT):TT:=fun G H Q=>t G H fun c U=>if c=true then Q true U else u G U Q
noncomputable def IW (t:TT):TT:=fun G H Q=>t G H fun c U=>Q (!c) U
theorem AG (x:PT X a tA):PW X (.BoolOp .And [a] O) tA:=by
 intro w B s G H Q I h;refine isTrue_and (cY (x B s G H Q I h) fun c n e=>?_);cases c with
 | true=>exact isTrue_and_nil e
 | false=>exact e
theorem CQ (x:PT X a tA):PW X (.BoolOp .Or [a] O) tA:=by
 intro w B s G H Q I h;refine isTrue_or (cY (x B s G H Q I h) fun c n e=>?_);cases c with
 | false=>exact isTrue_or_nil e
 | true=>exact e
theorem CS (e:PT X a tA) (n:PW X (.BoolOp .And (b::cu) O) tB'):PW X (.BoolOp .And (a::b::cu) O) (Ja tA tB'):=by
 intro w B s G H Q I h;refine isTrue_and (cY (e B s G H _ I h) fun c k z=>?_);obtain⟨U,x,q⟩:=z;cases c with
 | true=>exact n w B k G U Q x q
 | false=>exact⟨U,x,q⟩
theorem FE (e:PT X a tA) (n:PW X (.BoolOp .Or (b::cu) O) tB'):PW X (.BoolOp .Or (a::b::cu) O) (KD tA tB'):=by
 intro w B s G H Q I h;refine isTrue_or (cY (e B s G H _ I h) fun c k z=>?_);obtain⟨U,x,q⟩:=z;cases c with
 | true=>exact⟨U,x,q⟩
 | false=>exact n w B k G U Q x q
theorem CT (x:PT X a tA):PT X (.UnaryOp .Not a O) (IW tA):=by intro B s G H Q I h;exact isTrue_not (x B s G H (fun c U=>Q (!c) U) I h)
noncomputable def Fp (ta tb:TE):TE:=fun G H Q=>ta G H fun x U=>∃c,x=.bl c/\if c=true then tb G U Q else Q (.bl false) U
noncomputable def IU (ta tb:TE):TE:=fun G H Q=>ta G H fun x U=>∃c,x=.bl c/\if c=true then Q (.bl true) U else tb G U Q
noncomputable def Fg (ta:TE):TE:=fun G H Q=>ta G H fun x U=>∃c,x=.bl c/\Q (.bl (!c)) U
theorem C5 {N} (h:PE X a t):PE X (.BoolOp N [a] O) t:=fun B s G H Q I hw=>BoolOp_one (h B s G H Q I hw)
theorem C_ (n:PE X a ta) (k:PE X (.BoolOp .And (b::cu) O) tb):PE X (.BoolOp .And (a::b::cu) O) (Fp ta tb):=by
 intro B s G H Q I h;refine BoolOp_and (cY (n B s G H _ I h) fun v f z=>?_);obtain⟨x,U,e,r,q⟩:=z;obtain⟨c,rfl,q⟩:=q;cases r;refine i' ?_;cases c with
 | true=>exact k B f G U Q e q
 | false=>exact⟨.bl false,U,e,rfl,q⟩
theorem FI (n:PE X a ta) (k:PE X (.BoolOp .Or (b::cu) O) tb):PE X (.BoolOp .Or (a::b::cu) O) (IU ta tb):=by
 intro B s G H Q I h;refine BoolOp_or (cY (n B s G H _ I h) fun v f z=>?_);obtain⟨x,U,e,r,q⟩:=z;obtain⟨c,rfl,q⟩:=q;cases r;refine i' ?_;cases c with
 | false=>exact k B f G U Q e q
 | true=>exact⟨.bl true,U,e,rfl,q⟩
theorem C6 (n:PE X a ta):PE X (.UnaryOp .Not a O) (Fg ta):=by intro B s G H Q I h;refine UnaryOp_ (cY (n B s G H _ I h) fun v k z=>?_);obtain⟨x,U,e,r,q⟩:=z;obtain⟨c,rfl,q⟩:=q;cases r;exact not_of (i' ⟨.bl (!c),U,e,rfl,q⟩)
noncomputable def KG (t:TT) (ta tb:TE):TE:=fun G H Q=>t G H fun c U=>if c=true then ta G U Q else tb G U Q
theorem yF (f:PT X c tA) (n:PE X a ta) (k:PE X b tb):PE X (.IfExp c a b O) (KG tA ta tb):=by
 intro B s G H Q I h;refine wpAny_IfExp (cY (f B s G H _ I h) fun d e z=>?_);obtain⟨U,x,q⟩:=z;cases d with
 | true=>exact n B e G U Q x q
 | false=>exact k B e G U Q x q
end
noncomputable def gY (K:FG) (H:Hp) (a:Addr) (xs:List V):Prop:=
 Rd H a (.lst xs) \/
  ∃(o:Obj) (i:Array Value) (n:Nat),K.lookup a=some o/\o.cls=.type "list"/\o.dict=none/\o.data=.seq i n/\i.size≤sizeLine/\aQ xs i.toList
noncomputable def mQ (K:FG) (H:Hp) (a:Addr) (xs:List V):Prop:=
 Rd H a (.tup xs) \/
  ∃(o:Obj) (i:Array Value) (n:Nat),K.lookup a=some o/\o.cls=.type "tuple"/\o.dict=none/\o.data=.seq i n/\i.size≤sizeLine/\aQ xs i.toList
noncomputable def JO:Value->Option V
 | .none=>some .non
 | .bool b=>some (.bl b)
 | .int i _=>some (.int i)
 | .str x _=>some (.str x)
 | .bytes b _=>some (.byt b)
 | .float b _=>some (.flt b)
 | .ref a=>some (.ref a)
 | .type n=>some (.ty n)
 | _=>none
theorem RelV.abs (r:RelV x u):JO u=some x:=by
 cases x with
 | non=>cases r;rfl
 | bl _=>cases r;rfl
 | int _=>obtain⟨t,rfl⟩:=r;rfl
 | str _=>obtain⟨t,rfl⟩:=r;rfl
 | byt _=>obtain⟨t,rfl⟩:=r;rfl
 | flt _=>obtain⟨t,rfl⟩:=r;rfl
 | ref _=>cases r;rfl
 | ty _=>cases r;rfl
variable {y:V}
theorem RelV.inj (r:RelV x u) (q:RelV y u):x=y:=Option.some.inj (r.abs.symm.trans q.abs)
theorem aQ.inj:∀{xs ys:List V}{Y:LV},aQ xs Y->aQ ys Y->xs=ys
 | _,_,_,.nil,.nil=>rfl
 | _,_,_,.cons r t,.cons h x=>by rw [r.inj h,aQ.inj t x]
section
variable {X:Cx}{B:PN}{G:St}{H:Hp}{s:Shared}{a:Addr}{xs ys:List V}
theorem gY.of {K:FG} (h:H a=some (.lst xs)):gY K H a xs:=.inl (.inl h)
theorem Inv.list (I:Inv X B G H s) (h:gY X.K H a xs):∃i:LV,aQ xs i/\PlainL s.heap a i.toArray/\xs.length≤sizeLine:=by
 rcases h with h | ⟨o,i,n,k,c,hd,x,f,r⟩
 .obtain⟨z,i,n,r,e⟩:=h.ok I.hok;exact⟨i,r,⟨_,n,e,rfl,rfl,rfl⟩,z⟩
 .refine⟨i.toList,r,⟨o,n,I.kIn a o k,c,hd,by simpa using x⟩,?_⟩;have e:=r.length;simp only [mW] at e;lia
theorem Inv.tuple (I:Inv X B G H s) (h:mQ X.K H a xs):∃i:LV,aQ xs i/\IsTup s.heap a i.toArray/\xs.length≤sizeLine:=by
 rcases h with h | ⟨o,i,n,k,c,_,x,f,r⟩
 .obtain⟨z,i,r,p⟩:=h.ok I.hok;exact⟨i,r,p.tup,z⟩
 .refine⟨i.toList,r,⟨o,I.kIn a o k,c,n,by simpa using x⟩,?_⟩;have e:=r.length;simp only [mW] at e;lia
theorem Inv.tupleN (I:Inv X B G H s) (h:mQ X.K H a xs):∃i:LV,aQ xs i/\lI s.heap a i.toArray:=by
 rcases h with q | ⟨o,v,m,e,x,n,k,_,r⟩
 .exact⟨_,(q.ok I.hok).2.choose_spec⟩
 .exact⟨v.toList,r,o,I.kIn a o e,⟨x,m,by simpa using k⟩,n⟩
theorem Inv.list_inj (I:Inv X B G H s) (h:gY X.K H a xs) (h':gY X.K H a ys):xs=ys:=by
 obtain⟨t,r,⟨o,n,e,_,_,d⟩,_⟩:=I.list h;obtain⟨i,b,⟨o',c,k,_,_,x⟩,_⟩:=I.list h';rw [e] at k;cases k;rw [d] at x;injection x with f _;have:t=i:=by simpa using congrArg Array.toList f
 subst this;exact r.inj b
theorem Inv.tuple_inj (I:Inv X B G H s) (h:mQ X.K H a xs) (h':mQ X.K H a ys):xs=ys:=by
 obtain⟨t,r,⟨o,e,_,n,d⟩,_⟩:=I.tuple h;obtain⟨i,b,⟨o',k,_,c,x⟩,_⟩:=I.tuple h';rw [e] at k;cases k;rw [d] at x;injection x with f _;have:t=i:=by simpa using congrArg Array.toList f
 subst this;exact r.inj b
end
noncomputable abbrev Cx.wish (X:Cx) (E:VP):Cx:={ X with xe:=E }
noncomputable abbrev Cx.nox (X:Cx):Cx:=X.wish fun _ _=>False
theorem Cx.Ok.wish (ok:X.Ok) (E:VP):(X.wish E).Ok:=
 ⟨ok.mod,ok.kind,ok.glob,ok.blt,ok.above,ok.inj,ok.has,ok.cab,ok.hd,ok.frames,ok.stk,ok.exf,ok.bs,ok.bsz,ok.noex,ok.exfs,ok.funs,ok.frf⟩
theorem Cx.Ok.unwish (ok:(X.wish E).Ok):X.Ok:=
 ⟨ok.mod,ok.kind,ok.glob,ok.blt,ok.above,ok.inj,ok.has,ok.cab,ok.hd,ok.frames,ok.stk,ok.exf,ok.bs,ok.bsz,ok.noex,ok.exfs,ok.funs,ok.frf⟩
section
variable {X:Cx}{B:PN}{G:St}{H:Hp}{s:Shared}{E:VP}
theorem Inv.wish (I:Inv X B G H s) (E:VP):Inv (X.wish E) B G H s:=⟨I.ok.wish E,I.os,I.bare,I.base,I.loc,I.cell,I.free,I.freeC,I.pin,I.hok,I.len⟩
theorem Inv.unwish (I:Inv (X.wish E) B G H s):Inv X B G H s:=⟨I.ok.unwish,I.os,I.bare,I.base,I.loc,I.cell,I.free,I.freeC,I.pin,I.hok,I.len⟩
theorem SP.unwish (h:SP (X.wish E) B D f z):SP X B D f z:=by
 cases f with
 | next=>obtain⟨x,H',I,q⟩:=h;exact⟨x,H',I.unwish,q⟩
 | brk=>obtain⟨x,H',I,q⟩:=h;exact⟨x,H',I.unwish,q⟩
 | cont=>obtain⟨x,H',I,q⟩:=h;exact⟨x,H',I.unwish,q⟩
 | ret u=>obtain⟨v,x,H',I,r,q⟩:=h;exact⟨v,x,H',I.unwish,r,q⟩
theorem mx.nox {st:List Stmt}{t:TS} (h:mx X.nox st t):mx X st t:=fun B s G H D I hw=>
 wpAny_mono (h B s G H D (I.wish _) hw) (fun _ _ q=>q.unwish) fun _ _ z=>False.elim z
end
section
variable {X:Cx}{st:Stmt}{cu:List Stmt}{t u:TS}{e:Expr}{te:TE}{O:Pos}
noncomputable def Fi:TS:=fun D G H=>D.nx G H
noncomputable def IS (t u:TS):TS:=fun D G H=>t { D with nx:=u D } G H
theorem AI:mx X [] Fi:=fun _ _ G H _ I h=>wpAny_execs_nil ⟨G,H,I,h⟩
theorem yv (J:PS X st t) (h2:mx X cu u):mx X (st::cu) (IS t u):=by
 intro B s G H D I h;refine wpAny_execs_cons (cY (J B s G H { D with nx:=u D } I h) fun f e q=>?_);cases f with
 | next=>obtain⟨x,H',a,q⟩:=q;exact h2 B e x H' D a q
 | ret v=>exact q
 | brk=>exact q
 | cont=>exact q
theorem AH (J:PS X st t):mx X [st] t:=by
 intro B s G H D I h;refine wpAny_execs_cons (cY (J B s G H D I h) fun f x q=>?_);cases f with
 | next=>exact wpAny_execs_nil q
 | ret v=>exact q
 | brk=>exact q
 | cont=>exact q
theorem Inv.quiet (I:Inv X B G H s):interactive X.env=false:=by simp [interactive,I.ok.kind]
noncomputable def Fk (te:TE):TS:=fun D G H=>te G H fun _ U=>D.nx G U
theorem AJ (n:PE X e te) (k:swapsWith e none O.line X.env=pure false:=by rfl):PS X (.Expr e O) (Fk te):=by intro B s G H D I h;exact wpAny_Expr_any (cY (n B s G H _ I h) fun v f z=>by obtain⟨x,U,a,r,q⟩:=z;exact⟨G,U,a,q⟩) I.quiet k
noncomputable def IT (te:TE):TS:=fun D G H=>te G H D.rt
theorem CV (n:PE X e te):PS X (.Return (some e) O) (IT te):=by intro B s G H D I h;exact wpAny_Return_some (cY (n B s G H _ I h) fun v k z=>by obtain⟨x,U,a,r,q⟩:=z;exact⟨x,G,U,a,r,q⟩)
noncomputable def IY (c:TT) (t u:TS):TS:=fun D G H=>c G H fun b U=>if b=true then t D G U else u D G U
theorem FF {c:Expr}{a b:List Stmt}{tc:TT} (f:PT X c tc) (n:mx X a t) (k:mx X b u):PS X (.If c a b O) (IY tc t u):=by
 intro B s G H D I h;refine wpAny_If (cY (f B s G H _ I h) fun d e z=>?_);obtain⟨U,x,q⟩:=z;cases d with
 | true=>exact n B e G U D x q
 | false=>exact k B e G U D x q
noncomputable def CC:TS:=fun _ _ _=>False
theorem wQ:mx X N CC:=fun _ _ _ _ _ _ h=>h.elim
end
noncomputable abbrev TG:=V->St->Hp->(St->Hp->Prop)->Prop
noncomputable abbrev Eg:=List V->St->Hp->(St->Hp->Prop)->Prop
noncomputable def PG (X:Cx) (a:Expr) (t:TG):Prop:=
 ∀(B:PN) (s:Shared) (G:St) (H:Hp) (v:V) (u:Value) (Q:St->Hp->Prop),Inv X B G H s->RelV v u->t v G H Q ->
  wpAny (model X.prog X.w) X.A (assign a X.env u) (fun _ z=>∃h H',Inv X B h H' z/\Q h H') X.xe s
noncomputable def Hc (X:Cx) (x:Ab) (t:Eg):Prop:=
 ∀(B:PN) (s:Shared) (G:St) (H:Hp) (v:List V) (Y:LV) (Q:St->Hp->Prop),Inv X B G H s->aQ v Y->t v G H Q ->
  wpAny (model X.prog X.w) X.A (assignInOrder ((assignEach x X.env).map (·.2)) Y) (fun _ z=>∃h H',Inv X B h H' z/\Q h H') X.xe s
noncomputable abbrev Ef:=V->V->V->Hp->(Hp->Prop)->Prop
noncomputable def Ha (X:Cx) (t:Ef):Prop:=
 ∀(B:PN) (s:Shared) (G:St) (H:Hp) (o i v:V) (x h u:Value) (Q:Hp->Prop),Inv X B G H s->RelV o x->RelV i h->RelV v u->t o i v H Q ->
  wpAny (model X.prog X.w) X.A (setItem x h u) (fun _ z=>∃H',Inv X B G H' z/\Q H') X.xe s
noncomputable abbrev Lw:=V->V->Hp->VK->Prop
section
variable {X:Cx}{O:Pos}
noncomputable def B4 (i:Nat):TG:=fun v G H Q=>Q (G.set i (some v)) H
theorem AS (N:X.N.Nodup) (q:X.N[i]? = some x) (e:Loc X.env.scope x) (f:X.fn x=true\/X.env.scope.names.lookup x=some .local:=by first | exact .inl rfl | exact .inr rfl | assumption):PG X (.Name x O) (B4 i):=by intro B s G H v u Q I r h;exact wpAny_assign_Name (sg I N q e r (fun z a=>⟨_,H,a,h⟩) f)
noncomputable def JF:Eg:=fun v G H Q=>v=[]/\Q G H
noncomputable def GJ (t:TG) (u:Eg):Eg:=fun s G H Q=>∃v r,s=v::r/\t v G H fun h H'=>u r h H' Q
theorem AR:Hc X [] JF:=by intro B s G H v Y Q I r h;obtain⟨e,h⟩:=h;subst e;cases r;exact assignInOrder_nil ⟨G,H,I,h⟩
theorem yz {e:Expr}{es:Ab}{t:TG}{u:Eg} (J:PG X e t) (h2:Hc X es u)
  (k:(assignEach (e::es) X.env).map (·.2)=assign e X.env::(assignEach es X.env).map (·.2):=by rfl):Hc X (e::es) (GJ t u):=by
 intro B s G H m Y Q I r h;obtain⟨v,c,n,h⟩:=h;subst n;cases r with
 | cons r f=>rw [k];refine assignInOrder_cons (cY (J B s G H _ _ _ I r h) fun _ b z=>?_);obtain⟨x,U,a,q⟩:=z;exact h2 B b x U _ _ Q a f q
noncomputable def JD (K:FG) (n:Nat) (t:Eg):TG:=fun v G H Q=>∃a xs,v=.ref a/\mQ K H a xs/\xs.length=n/\t xs G H Q
theorem C2 (p:X.calm=true) (h:Hc X es t)
  (q:(assignEach es X.env).length=n:=by rfl) (x:(assignEach es X.env).findIdx? (·.1)=none:=by rfl):PG X (.Tuple es k O) (JD X.K n t):=by
 intro B s G H v u Q I r hw;obtain⟨a,xs,m,d,l,hw⟩:=hw;subst m;cases r;obtain⟨i,f,w,z⟩:=I.tuple d;refine assign_Tuple_tuple (I.ok.hd p) w (by simp [q,<- l,f.length]) x fun h' g=>?_
 have c:Inv X B G H { s with heap:=h' }:=I.kept (t':=s.toks) fun b o e=>g b o (b_ (Heap.lt_size e)) e;exact h B _ G H xs _ Q c (by simpa using f) hw
noncomputable def JE (to x:TE) (t:Ef):TG:=fun v G H Q=>to G H fun o U=>x G U fun i H2=>t o i v H2 fun h=>Q G h
theorem C3 {o i:Expr}{to a:TE}{t:Ef} (c:PE X o to) (q:PE X i a) (m:Ha X t)
  (b:∀v,assign (.Subscript o i O) X.env v=(do
   let N <- holding [v] (eval o X.env)
   let iv <- holding [v,N] (eval i X.env)
   standAt O
   holding [v,N,iv] (setItem N iv v)
   release [v,N,iv] []):=by intro _;rfl):PG X (.Subscript o i O) (JE to a t):=by
 intro B s G H v u Q I r h;rw [b];refine wpAny_bind (wpAny_holding (cY (c B s G H _ I h) fun N l z=>?_));obtain⟨x,U,n,g,p⟩:=z;refine wpAny_bind (wpAny_holding (cY (q B l G U _ n p) fun iv S z=>?_));obtain⟨y,H2,k,j,d⟩:=z;refine wpAny_bind (wpAny_standAt (wpAny_bind (wpAny_holding (cY (m B S G H2 x y v N iv u _ k g j r d) fun _ F z=>?_))));obtain⟨e,f,w⟩:=z;exact wpAny_release ⟨G,e,f,w⟩
noncomputable def Fo (te:TE) (g:TG):TS:=fun D G H=>te G H fun x U=>g x G U D.nx
theorem yw {tg e:Expr}{te:TE}{g:TG} (n:PE X e te) (k:PG X tg g) (f:swapsWithSole [tg] e O.line X.env=pure false:=by rfl) (hw:swappedStores [tg] e X.env=pure none:=by rfl)
  (J:(assignEach [tg] X.env).map (·.2)=[assign tg X.env]:=by rfl):PS X (.Assign [tg] e O) (Fo te g):=by
 intro B s G H D I h;refine wpAny_Assign_stores (cY (n B s G H _ I h) fun v c z=>?_) f hw;obtain⟨x,U,a,r,b⟩:=z;rw [J];exact cY (k B c G U x v _ a r b) fun _ m q=>q
theorem CU (N:X.N.Nodup) (q:X.N[i]? = some x) (c:Loc X.env.scope x) (k:PE X e te) (b:swapsWith e (some (.Name x pos')) O.line X.env=pure false:=by rfl) (f:X.fn x=true\/X.env.scope.names.lookup x=some .local:=by first | exact .inl rfl | exact .inr rfl | assumption) :
  PS X (.Assign [.Name x pos'] e O) (Fo te (B4 i)):=by
 intro B s G H D I h;refine wpAny_Assign_Name (cY (k B s G H _ I h) fun v t z=>?_) b;obtain⟨y,U,a,r,m⟩:=z;exact sg a N q c r (fun p n=>⟨_,U,n,m⟩) f
end
structure It where
 go:Nat->Hp->Prop
 yld:Nat->Hp->V->Hp->Prop
 stop:Nat->Hp->Prop
noncomputable def rT (X:Cx) (B:PN) (H:Hp) (b:Addr):Prop:=
 H b=none/\b≠X.env.locals/\b ∉ X.fs/\(b ∈ X.ex\/X.s₀.heap.objs.size≤b)/\(∀x c,X.env.cells.lookup x=some c->c≠b)/\∀p ∈ X.pn++B,p.1≠b
variable {B:PN}{G:St}
theorem Inv.fpOk (I:Inv X B G H s) (h:s.heap.objs.size≤b) (n:H' b=none):rT X B H' b:=by
 refine⟨n,cK (cq I.lt h),I.nofs h,.inr (aU I.sz h),fun x c e z=>?_,fun p a z=>?_⟩
 .obtain⟨v,q⟩:=I.cell x c e;exact absurd (cq q.lt (by rw [z];exact h)) (i5 _)
 .exact absurd (cq (Heap.lt_size (I.pin p a).1) (by rw [z];exact h)) (i5 _)
structure Turn (P:Program) (w:World) (K:FG) (tg:Expr) (J:It) (fp:List Addr) (it:Addr) (tn:Nat->Heap->Prop):Prop where
 mem:it ∈ fp
 obj:∀i h,tn i h->∀b ∈ fp,∃o,h.get? b=some o/\∀v,o.data≠.cell v
 keep:∀i h h',tn i h->(∀b ∈ fp,∀o,h.get? b=some o->h'.get? b=some o)->tn i h'
 item:∀(X:Cx),X.prog=P->X.w=w->X.K=K->X.calm=true->∀(i:Nat) (pins:PN) (s:Shared) (σ:St) (H:Hp) (E:VP),Inv X pins σ H s->(∀b ∈ fp,rT X pins H b)->tn i s.heap->J.go i H ->
  wpAny (model P w) X.A (pyNext (.ref it)) (fun r s1=>∃u,r=some u /\
   wpAny (model P w) X.A (letOwnedTupleGo tg (.ref it) u) (fun _ s2=>∃x H',Inv X pins σ H' s2/\RelV x u/\J.yld i H x H'/\tn (i+1) s2.heap/\∀b ∈ fp,H' b=none) E s1) E s
 done:∀(X:Cx),X.prog=P->X.w=w->X.K=K->X.calm=true->∀(i:Nat) (pins:PN) (s:Shared) (σ:St) (H:Hp) (E:VP),Inv X pins σ H s->(∀b ∈ fp,rT X pins H b)->tn i s.heap->J.stop i H ->
  wpAny (model P w) X.A (pyNext (.ref it)) (fun r s1=>r=none/\Inv X pins σ H s1) E s
 self:∀(A:Around) (i:Nat) (s:Shared) (Q:VP) (E:VP),tn i s.heap->Q (.ref it) s->wpAny (model P w) A (pyIter (.ref it)) Q E s
noncomputable abbrev TI:=St->Hp->(It->Hp->Prop)->Prop
noncomputable def Ia (X:Cx) (B:PN) (G:St) (tg:Expr) (R:It->Hp->Prop) (i:Value) (s:Shared):Prop:=
 ∃(t:Addr) (f:List Addr) (n:Nat->Heap->Prop) (J:It) (H':Hp),i=.ref t/\Inv X B G H' s/\Turn X.prog X.w X.K tg J f t n/\n 0 s.heap/\(∀b ∈ f,rT X B H' b)/\R J H'
noncomputable def PI (X:Cx) (tg iter:Expr) (w:TI):Prop:=
 ∀(B:PN) (s:Shared) (G:St) (H:Hp) (R:It->Hp->Prop),Inv X B G H s->w G H R ->
  wpAny (model X.prog X.w) X.A (eval iter X.env) (fun v h=>wpAny (model X.prog X.w) X.A (pyIter v) (Ia X B G tg R) X.xe h) X.xe s
variable {tg:Expr}
theorem vZ (e:s.heap.get? N=some o) (c:o.cls=.type n) (hd:o.data=.fields vs)
    (a:["enumerate","zip","dict_itemiterator","dict_reverseitemiterator","odict_iterator","itertools.zip_longest","itertools.pairwise"].contains n=false) (x:Q () s):wpAny M A (letOwnedTupleGo tg (.ref N) u) Q E s:=by
  unfold letOwnedTupleGo;cases tg <;> first
    | exact wpAny_pure x
    | (cases u <;> first
        | exact wpAny_pure x
        | (refine wpAny_bind (wpAny_load e ?_)
           rw [c,hd];show wpAny M A (if (["enumerate","zip","dict_itemiterator","dict_reverseitemiterator","odict_iterator","itertools.zip_longest","itertools.pairwise"].contains n && vs[0]? == some (rawInt _))=true then _ else _) Q E s;rw [if_neg (by intro h;rw [a,Bool.false_and] at h;cases h)];exact wpAny_pure x))
noncomputable def Ie (K:FG) (a:Addr):It:=
 ⟨fun i H=>∃xs x,gY K H a xs/\xs[i]? = some x,fun i H x H'=>H'=H/\∀xs,gY K H a xs->xs[i]? = some x,fun i H=>∃xs,gY K H a xs/\xs.length≤i⟩
noncomputable def Kr (K:FG) (a:Addr):It:=
 ⟨fun i H=>∃xs x,mQ K H a xs/\xs[i]? = some x,fun i H x H'=>H'=H/\∀xs,mQ K H a xs->xs[i]? = some x,fun i H=>∃xs,mQ K H a xs/\xs.length≤i⟩
noncomputable def Ic (I:Int) (n:Nat):It:=⟨fun i _=>i < n,fun i H x H'=>H'=H/\x=.int (I+i),fun i _=>n≤i⟩
variable {w:World}{K:FG}
theorem wE (a t:Addr):Turn P w K tg (Ie K a) [t] t (fun i h=>h.IsListIter t a i) where
 mem:=by simp
 obj:=fun i h st b n=>by
  have e:b=t:=by simpa using n
  subst e;obtain⟨o,e,c,d⟩:=st;exact⟨o,e,fun v z=>by rw [d] at z;cases z⟩
 keep:=fun i h h' st k=>st.at fun o e=>k t (by simp) o e
 item:=by
  intro X F hw S L i B s G H E I m st A;subst F hw S;obtain⟨xs,x,q,C⟩:=A;obtain⟨D,J,p,T⟩:=I.list q;obtain⟨u,Q,U⟩:=J.get C;obtain⟨r,g,O,j,l,y⟩:=m t (by simp);refine wpAny_pyNext_list_item st p.isList (x:=u) (by simpa using Q) fun h' f V=>?_
  have M:Inv X B G H { s with heap:=h' }:=I.turned (t':=s.toks) (fun b o n e=>(V.2 b n).trans e) r g j l y;obtain⟨o,e,c,d⟩:=id f;exact⟨u,rfl,vZ (s:={ s with heap:=h' }) e c d (by decide) ⟨x,H,M,U,⟨rfl,fun ys R=>by rw [I.list_inj R q];exact C⟩,f,fun b n=>(m b n).1⟩⟩
 done:=by intro X F hw S L i B s G H E I m st A;subst F hw S;obtain⟨xs,q,C⟩:=A;obtain⟨D,J,p,T⟩:=I.list q;obtain⟨r,g,O,j,l,y⟩:=m t (by simp);have W:=J.length;exact wpAny_pyNext_list_end (I.ok.hd L) st p.isList (by simp;lia) fun h' N=>⟨rfl,I.turned (t':=s.toks) (fun b o n e=>N b o n e) r g j l y⟩
 self:=fun _ _ _ _ _ st h=>wpAny_pyIter_listiter st h
theorem uj (a t:Addr):Turn P w K tg (Kr K a) [t] t (fun i h=>h.IsTupleIter t a i) where
 mem:=by simp
 obj:=fun i h st b n=>by
  have e:b=t:=by simpa using n
  subst e;obtain⟨o,e,c,d⟩:=st;exact⟨o,e,fun v z=>by rw [d] at z;cases z⟩
 keep:=fun i h h' st k=>st.at fun o e=>k t (by simp) o e
 item:=by
  intro X A hw F L i B s G H E I r st C;subst A hw F;obtain⟨xs,x,q,D⟩:=C;obtain⟨f,J,p,T⟩:=I.tuple q;obtain⟨u,Q,U⟩:=J.get D;obtain⟨g,j,O,l,y,S⟩:=r t (by simp);refine wpAny_pyNext_tuple_item st (show s.heap.IsTuple a f.toArray from p) (x:=u) (by simpa using Q) fun h' m V=>?_
  have M:Inv X B G H { s with heap:=h' }:=I.turned (t':=s.toks) (fun b o n e=>(V.2 b n).trans e) g j l y S;obtain⟨o,e,c,d⟩:=id m;exact⟨u,rfl,vZ (s:={ s with heap:=h' }) e c d (by decide) ⟨x,H,M,U,⟨rfl,fun ys R=>by rw [I.tuple_inj R q];exact D⟩,m,fun b n=>(r b n).1⟩⟩
 done:=by intro X A hw F L i B s G H E I r st C;subst A hw F;obtain⟨xs,q,D⟩:=C;obtain⟨f,J,p,T⟩:=I.tuple q;obtain⟨g,j,O,l,y,S⟩:=r t (by simp);have W:=J.length;exact wpAny_pyNext_tuple_end (I.ok.hd L) st (show s.heap.IsTuple a f.toArray from p) (by simp;lia) fun h' N=>⟨rfl,I.turned (t':=s.toks) (fun b o n e=>N b o n e) g j l y S⟩
 self:=fun _ _ _ _ _ st h=>wpAny_pyIter_tupleiter st h
theorem uk (a:Addr) (I:Int) (n:Nat):Turn P w K tg (Ic I n) [a] a (fun i h=>IsRangeIter h a (I+(i:Nat) * 1) ((n:Int)-(i:Nat)) 1) where
 mem:=by simp
 obj:=fun i h st b f=>by
  have e:b=a:=by simpa using f
  subst e;exact⟨_,st,fun v z=>by have J:Data.fields _=Data.cell v:=z;cases J⟩
 keep:=fun i h h' st k=>k a (by simp) _ st
 item:=by
  intro X j hw g l i B s G H E x m st y;subst j hw g;obtain⟨r,p,A,q,d,u⟩:=m a (by simp);have W:=Walks.range (prog:=X.prog) (w:=X.w) (x.ok.hd l) a I 1 n;refine W.item i s _ _ y st fun v h' tk C c D=>?_
  obtain⟨t,rfl⟩:=C;have S:Inv X B G H { s with heap:=h',toks:=tk }:=x.turned (fun b o f e=>D b o (by simpa using f) e) r p q d u;refine⟨_,rfl,vZ (s:={ s with heap:=h',toks:=tk }) (n:="range_iterator") c rfl rfl (by decide) ⟨.int (I+i),H,S,⟨t,?_⟩,⟨rfl,rfl⟩,c,fun b f=>(m b f).1⟩⟩;rw [Int.mul_one]
 done:=by intro X j hw g l i B s G H E x m st y;subst j hw g;obtain⟨r,p,A,q,d,u⟩:=m a (by simp);exact wpAny_pyNext_range_end (x.ok.hd l) st (by have:n≤i:=y;lia) fun h' F=>⟨rfl,x.turned (t':=s.toks) (fun b o f e=>F b o f e) r p q d u⟩
 self:=fun _ _ _ _ _ st h=>wpAny_pyIter_rangeiter st h
section
variable {X:Cx}{tg:Expr}
theorem yq {I q:Int}{t u v:Tok}{tk:Nat} (h:Inv X B G H s) (J:-(2 ^ 62)≤I) (h2:I < 2 ^ 62) (f:-(2 ^ 62)≤q) (c:q < 2 ^ 62)
  (x:R (Ic I (q-I).toNat) H):wpAny (model X.prog X.w) X.A (pyIter (.ref s.heap.objs.size)) (Ia X B G tg R) E { s with heap:=s.heap.push { cls:=.type "range",data:=.fields #[.int I t,.int q u,.int 1 v] },toks:=tk }:=by
 refine wpAny_pyIter_range (IsRange.new ..) (small_one J h2 f c) ?_;have a:Inv X B G H { s with heap:=s.heap.push { cls:=.type "range",data:=.fields #[.int I t,.int q u,.int 1 v] },toks:=tk }:=h.kept fun b o e=>Heap.get?_push_of_some _ e;refine⟨(s.heap.push { cls:=.type "range",data:=.fields #[.int I t,.int q u,.int 1 v] }).objs.size,[(s.heap.push { cls:=.type "range",data:=.fields #[.int I t,.int q u,.int 1 v] }).objs.size],_,_,H,rfl,
  a.kept (t':=tk) fun b o e=>Heap.get?_push_of_some _ e,uk _ I (q-I).toNat,?_,fun b m=>?_,x⟩
 .have n:I+((0:Nat):Int) * 1=I:=by simp
  have k:(((q-I).toNat:Nat):Int)-((0:Nat):Int)=Builtin.Range.rangeSize I q 1:=by rw [rangeSize_one];split <;> lia
  show IsRangeIter _ _ (I+((0:Nat):Int) * 1) ((((q-I).toNat:Nat):Int)-((0:Nat):Int)) 1;rw [n,k];exact Heap.get?_push_size _ rfl
 .have e:b=(s.heap.push { cls:=.type "range",data:=.fields #[.int I t,.int q u,.int 1 v] }).objs.size:=by simpa using m
  subst e;exact a.fpOk (Nat.le_refl _) (a.hok.fresh (Nat.le_refl _))
noncomputable def Gx (ta:TA):TI:=fun G H R=>ta G H fun v U=>∃j:Int,v=[.int j]/\-(2 ^ 62)≤j/\j < 2 ^ 62/\R (Ic 0 j.toNat) U
theorem wT {a:Expr}{ta:TA}{p O:Pos} (g:Gl X "range") (m:X.mg "range"=none) (k:PA X [a] ta) (f:starEach [a] X.env=[(false,eval a X.env)]:=by rfl):PI X tg (.Call (.Name "range" p) [a] [] O) (Gx ta):=by
 intro B s G H R I h;refine Call_ (j7 I g m boot_range (mY (cY (k O B s G H _ I h) fun Y d z=>?_) f rfl));obtain⟨w,U,n,c,x⟩:=z;obtain⟨j,e,x,b,q⟩:=x;subst e;cases c with
 | cons r v=>cases v;obtain⟨t,rfl⟩:=r;exact call_range_1 (yq n (by lia) (by lia) x b (by simpa using q))
noncomputable def IZ (w:TI) (g:TG) (tb:TS):TS:=fun D G H=>w G H fun J U=>∃W:Nat->Nat->St->Hp->Prop,(∃m,W 0 m G U)/\∀i m G H,W i m G H ->
 (J.stop i H/\D.nx G H)\/(J.go i H/\∃N:St->Hp->Prop,(∀h H',N h H'->∃e,e < m/\W (i+1) e h H')/\∀x H',J.yld i H x H'->g x G H' fun a H2=>tb { D with nx:=N,ct:=N,bk:=D.nx } a H2)
noncomputable def lc (f:List Addr) (h:Heap):PN:=f.filterMap fun b=>(h.get? b).map fun o=>(b,o)
theorem iF (x:b ∈ N) (e:h.get? b=some o):(b,o) ∈ lc N h:=pN.mpr ⟨b,x,by rw [e];rfl⟩
theorem wW (s:p ∈ lc N h):p.1 ∈ N/\h.get? p.1=some p.2:=by
 obtain⟨b,a,e⟩:=pN.mp s;cases q:h.get? b with
 | none=>rw [q] at e;cases e
 | some o=>rw [q] at e;have x:(b,o)=p:=Option.some.inj e;subst x;exact⟨a,q⟩
theorem Inv.pinned (I:Inv X B G H s) (k:∀b ∈ N,rT X B H b) (c:∀b ∈ N,∃o,s.heap.get? b=some o/\∀v,o.data≠.cell v):Inv X (B++lc N s.heap) G H s:=
 I.pins_of fun p m=>(dL.mp m).elim (fun z=>I.pin p (fY _ z)) fun z=>by obtain⟨x,e⟩:=wW z;obtain⟨f,a,n,_⟩:=k p.1 x;obtain⟨o,h,d⟩:=c p.1 x;rw [e] at h;cases h;exact⟨e,f,a,n,d⟩
theorem Inv.unpinned (I:Inv X (B++N) G H s):Inv X B G H s:=I.pins_of fun p h=>I.pin p (fY _ (jb _ h))
theorem CW {iter:Expr}{y:List Stmt}{wi:TI}{g:TG}{tb:TS}{O:Pos} (A:PassesOwn (model X.prog X.w) X.A X.env X.xe) (hc:X.calm=true) (q:PI X tg iter wi) (hg:PG X tg g) (p:mx X y tb)
  (hs:∀x,foldedSetIterable iter X.env x=pure x:=by intro _;rfl):PS X (.For tg iter y [] O) (IZ wi g tb):=by
 intro B s G H D I h;refine wpAny_For (cY (q B s G H _ I h) fun v s1 J=>cY J fun itv s2 h2=>?_) hs;obtain⟨it,K,tn,a,H2,e,I2,T,Y,f2,W,⟨m0,w0⟩,L⟩:=h2;subst e;have w:∀{H':Hp},(∀b ∈ K,H' b=none)->∀b ∈ K,rT X B H' b:=fun hn b p=>⟨hn b p,(f2 b p).2⟩
 refine codeAny_forLoop_any (fun n z=>∃i j H',Inv X B j H' z/\tn i z.heap/\(∀b ∈ K,H' b=none)/\W i n j H') ?_ m0 ⟨0,G,H2,I2,Y,fun b p=>(f2 b p).1,w0⟩;rintro n s3 ⟨i,l,M,I3,sh,P,w3⟩;rcases L i n l M w3 with ⟨E,qn⟩ | ⟨go,N,hN,step⟩
 .refine mS A (cY (T.done X rfl rfl rfl hc i B s3 l M X.xe I3 (w P) sh E) fun r s4 F=>?_);obtain⟨U,I4⟩:=F;subst U;exact wpAny_execs_nil ⟨l,M,I4,qn⟩
 .refine mS A (cY (T.item X rfl rfl rfl hc i B s3 l M X.xe I3 (w P) sh go) fun r s4 F=>?_);obtain⟨u,U,h4⟩:=F;subst U;refine mS A (cY h4 fun _ s5 F=>?_);obtain⟨x,H5,I5,r5,y5,Fq,R⟩:=F;have Q:=I5.pinned (w R) (T.obj _ _ Fq);refine mS A (cY (hg _ s5 l H5 x u _ Q r5 (step x H5 y5)) fun _ s6 F=>?_);obtain⟨Z,H6,I6,q6⟩:=F;refine mS A (cY (p _ s6 Z H6 _ I6 q6) fun f V S=>?_);have again:∀{k:St}{c:Hp},Inv X (B++lc K s5.heap) k c V->N k c->∃m,m < n/\∃i j H',Inv X B j H' V/\tn i V.heap/\(∀b ∈ K,H' b=none)/\W i m j H':=fun {k c} t C=>by
   obtain⟨m',hm,w7⟩:=hN k c C;refine⟨m',hm,i+1,k,c,t.unpinned,T.keep _ _ _ Fq fun b p o e=>(t.pin (b,o) (fY _ (fY _ (iF p e)))).1,fun b p=>?_,w7⟩;obtain⟨o,e,d⟩:=T.obj _ _ Fq b p;exact (t.pin (b,o) (fY _ (fY _ (iF p e)))).2.1
  cases f with
  | next=>obtain⟨k,c,t,C⟩:=S;exact again t C
  | cont=>obtain⟨k,c,t,C⟩:=S;exact again t C
  | brk=>obtain⟨k,c,t,S⟩:=S;exact⟨k,c,t.unpinned,S⟩
  | ret v=>obtain⟨x7,k,c,t,r7,S⟩:=S;exact⟨x7,k,c,t.unpinned,r7,S⟩
end
noncomputable abbrev R2:=V->V->Hp->VK->Prop
noncomputable def ik (X:Cx) (f:Value->Value->Sem Value) (r:R2):Prop:=
 ∀(B:PN) (s:Shared) (G:St) (H:Hp) (x y:V) (v u:Value) (Q:VK),Inv X B G H s->RelV x v->RelV y u->r x y H Q ->
  wpAny (model X.prog X.w) X.A (f v u) (EP X B G Q) X.xe s
noncomputable def JP (X:Cx) (f:Value->Sem Value) (r:V->Hp->VK->Prop):Prop:=
 ∀(B:PN) (s:Shared) (G:St) (H:Hp) (x:V) (v:Value) (Q:VK),Inv X B G H s->RelV x v->r x H Q ->
  wpAny (model X.prog X.w) X.A (f v) (EP X B G Q) X.xe s
noncomputable def dh (X:Cx) (f:Value) (r:List V->Hp->VK->Prop):Prop:=
 ∀(B:PN) (s:Shared) (G:St) (H:Hp) (xs:List V) (Y:LV) (Q:VK),Inv X B G H s->aQ xs Y->r xs H Q ->
  wpAny (model X.prog X.w) X.A (call f Y) (EP X B G Q) X.xe s
noncomputable def JQ (X:Cx) (r:V->Hp->(Bool->Hp->Prop)->Prop):Prop:=
 ∀(B:PN) (s:Shared) (G:St) (H:Hp) (x:V) (v:Value) (Q:Bool->Hp->Prop),Inv X B G H s->RelV x v->r x H Q ->
  wpAny (model X.prog X.w) X.A (truthy v) (TP X B G Q) X.xe s
noncomputable def CB (r:R2) (ta tb:TE):TE:=fun G H Q=>ta G H fun x U=>tb G U fun y H2=>r x y H2 Q
noncomputable def KA (r:V->Hp->VK->Prop) (ta:TE):TE:=fun G H Q=>ta G H fun x U=>r x U Q
noncomputable def rI (C:Int->Int->Prop) (g:Int->Int->V):R2:=fun x y H Q=>∃i j,x=.int i/\y=.int j/\C i j/\Q (g i j) H
noncomputable def AD (g:Int->Int->V):R2:=fun x y H Q=>∃i j,x=.int i/\y=.int j/\Q (g i j) H
noncomputable def rU (g:Int->V):V->Hp->VK->Prop:=fun x H Q=>∃i,x=.int i/\Q (g i) H
section
variable {X:Cx}{a b c:Expr}{ta tb tc:TE}{O:Pos}
theorem D' (r:PE X a ta) (t:PE X b tb) {B:PN}{s:Shared}{G:St}{H:Hp}{R:V->V->Hp->Prop} (I:Inv X B G H s)
  (h:ta G H fun x U=>tb G U fun y H2=>R x y H2) {Q:VP}{f:Value->Value->Sem Value}
  (p:∀v u k x y H2,Inv X B G H2 k->RelV x v->RelV y u->R x y H2->wpAny (model X.prog X.w) X.A (f v u) Q X.xe k) :
  wpAny (model X.prog X.w) X.A (eval a X.env) (fun v e=>wpAny (model X.prog X.w) X.A (eval b X.env) (fun u n=>wpAny (model X.prog X.w) X.A (f v u) Q X.xe n) X.xe e) X.xe s:=by
 refine cY (r B s G H _ I h) fun v i z=>?_;obtain⟨x,U,c,w,q⟩:=z;refine cY (t B i G U _ c q) fun u k z=>?_;obtain⟨y,H2,m,g,d⟩:=z;exact p v u k x y H2 m w g d
theorem FJ {o:Operator}{r:R2} (f:ik X (binaryOp o) r) (n:PE X a ta) (k:PE X b tb):PE X (.BinOp a o b O) (CB r ta tb):=by intro B s G H Q I h;exact wpAny_BinOp (D' n k I h fun v u t x y H2 e c m q=>f B t G H2 x y v u Q e c m q)
theorem FH (o:JP X (unaryOp N) r) (n:PE X a ta):PE X (.UnaryOp N a O) (KA r ta):=by intro B s G H Q I h;exact UnaryOp_ (cY (n B s G H _ I h) fun v f z=>by obtain⟨x,U,e,k,q⟩:=z;exact o B f G U x v Q e k q)
theorem Hu {f:Value->Value->Sem Value}{C:Int->Int->Prop}{g:Int->Int->Int}
  (rule:∀(i j:Int) (t u:Tok) (s:Shared) (Q:VP) (E:VP),C i j->Q (.int (g i j) s.toks) { s with toks:=s.toks+1 }->wpAny (model X.prog X.w) X.A (f (.int i t) (.int j u)) Q E s) :
  ik X f (rI C fun i j=>.int (g i j)):=by
 intro B s G H x y v u Q I r a h;obtain⟨i,j,rfl,rfl,c,q⟩:=h;obtain⟨t,rfl⟩:=r;obtain⟨e,rfl⟩:=a;exact rule i j t e s _ _ c ⟨.int (g i j),H,I.tok _,⟨_,rfl⟩,q⟩
theorem FY {f:Value->Value->Sem Value}{g:Int->Int->Int}
  (rule:∀(i j:Int) (t u:Tok) (s:Shared) (Q:VP) (E:VP),Q (.int (g i j) s.toks) { s with toks:=s.toks+1 }->wpAny (model X.prog X.w) X.A (f (.int i t) (.int j u)) Q E s) :
  ik X f (AD fun i j=>.int (g i j)):=by
 intro B s G H x y v u Q I r a h;obtain⟨i,j,rfl,rfl,q⟩:=h;obtain⟨t,rfl⟩:=r;obtain⟨e,rfl⟩:=a;exact rule i j t e s _ _ ⟨.int (g i j),H,I.tok _,⟨_,rfl⟩,q⟩
theorem A1 {f:Value->Value->Sem Value}{g:Int->Int->Bool}
  (rule:∀(i j:Int) (t u:Tok) (s:Shared) (Q:VP) (E:VP),Q (.bool (g i j)) s->wpAny (model X.prog X.w) X.A (f (.int i t) (.int j u)) Q E s) :
  ik X f (AD fun i j=>.bl (g i j)):=by
 intro B s G H x y v u Q I r a h;obtain⟨i,j,rfl,rfl,q⟩:=h;obtain⟨t,rfl⟩:=r;obtain⟨e,rfl⟩:=a;exact rule i j t e s _ _ ⟨.bl (g i j),H,I,rfl,q⟩
noncomputable def JV (i j:Int):Prop:=0≤j/\j≤1000000/\i.natAbs < 2 ^ 64
noncomputable def Lo (i j:Int):Prop:=(-(2 ^ 64) < i/\i < 2 ^ 64)\/(-(2 ^ 64) < j/\j < 2 ^ 64)
theorem Di:ik X (binaryOp .Add) (AD fun i j=>.int (i+j)):=FY fun _ _ _ _ _ _ _ q=>add_int q
theorem Db:ik X (binaryOp .Sub) (AD fun i j=>.int (i-j)):=FY fun _ _ _ _ _ _ _ q=>sub_int q
theorem De:ik X (binaryOp .Mod) (rI (fun _ j=>0 < j) fun i j=>.int (i % j)):=Hu fun i j _ _ _ _ _ h q=>by have J:(0:Int) < j:=h;exact mod_int' (by lia) (by rw [Int.fmod_eq_emod_of_nonneg i (by lia)];exact q)
theorem Dd:ik X (binaryOp .Pow) (rI JV fun i j=>.int (i ^ j.toNat)):=Hu fun _ _ _ _ _ _ _ h q=>pow_int_small h.1 h.2.1 h.2.2 q
theorem Kz {f:Value->Sem Value}{g:Int->Int}
  (rule:∀(i:Int) (t:Tok) (s:Shared) (Q:VP) (E:VP),Q (.int (g i) s.toks) { s with toks:=s.toks+1 }->wpAny (model X.prog X.w) X.A (f (.int i t)) Q E s) :
  JP X f (rU fun i=>.int (g i)):=by
 intro B s G H x v Q I r h;obtain⟨i,rfl,q⟩:=h;obtain⟨t,rfl⟩:=r;exact rule i t s _ _ ⟨.int (g i),H,I.tok _,⟨_,rfl⟩,q⟩
theorem Cu:JP X (unaryOp .USub) (rU fun i=>.int (-i)):=Kz fun _ _ _ _ _ q=>neg_int q
end
noncomputable def Fy:V->V->Bool
 | .non,.non=>true | .non,.int _=>true | .int _,.non=>true | .non,.bl _=>true | .bl _,.non=>true | .non,.str _=>true | .str _,.non=>true
 | .int _,.int _=>true | .bl _,.bl _=>true | .str _,.str _=>true | .byt _,.byt _=>true
 | .int _,.str _=>true | .str _,.int _=>true | .bl _,.str _=>true | .str _,.bl _=>true
 | _,_=>false
noncomputable def KP:R2:=fun x y H Q=>Fy x y=true/\Q (.bl (decide (x=y))) H
noncomputable def KO:R2:=fun x y H Q=>Fy x y=true/\Q (.bl (!decide (x=y))) H
theorem wf {i j:Int}:decide (V.int i=V.int j)=(i == j):=by rw [i6];simp
theorem zF:decide (V.bl i=V.bl N)=(i == N):=by rw [i6];simp
theorem we:decide (V.str i=V.str N)=(i == N):=by rw [i6];simp
theorem wg:decide (V.byt i=V.byt N)=(i.toList == N.toList):=by rw [i6];cases i;cases N;simp
section
variable {X:Cx}{a b c:Expr}{ta tb tc:TE}{O:Pos}
theorem bq (I:Inv X B G H s) (q:Q (.bl k) H) (e:k=N):EP X B G Q (.bool N) s:=by subst e;exact⟨.bl k,H,I,rfl,q⟩
theorem yO:ik X (compareOp .Eq) KP:=by
 intro B s G H x y v u Q I n r h;obtain⟨e,q⟩:=h;cases x with
 | non=>
  cases n;cases y with
  | non=>cases r;exact PySem.EqNone.eq_none_none (bq I q (by simp))
  | bl j=>cases r;exact PySem.EqNone.eq_none_bool (bq I q (by simp))
  | int j=>obtain⟨a,rfl⟩:=r;exact PySem.EqNone.eq_none_int (bq I q (by simp))
  | str j=>obtain⟨a,rfl⟩:=r;exact PySem.EqNone.eq_none_str (bq I q (by simp))
  | _=>exact absurd (show false=true from e) bZ
 | bl i=>
  cases n;cases y with
  | non=>cases r;exact PySem.EqNone.eq_bool_none (bq I q (by simp))
  | bl j=>cases r;exact eq_bool (bq I q zF)
  | str j=>obtain⟨a,rfl⟩:=r;exact PySem.EqMixed.eq_bool_str (bq I q (by simp))
  | _=>exact absurd (show false=true from e) bZ
 | int i=>
  obtain⟨t,rfl⟩:=n;cases y with
  | non=>cases r;exact PySem.EqNone.eq_int_none (bq I q (by simp))
  | int j=>obtain⟨a,rfl⟩:=r;exact eq_int (bq I q wf)
  | str j=>obtain⟨a,rfl⟩:=r;exact PySem.EqMixed.eq_int_str (bq I q (by simp))
  | _=>exact absurd (show false=true from e) bZ
 | str i=>
  obtain⟨t,rfl⟩:=n;cases y with
  | non=>cases r;exact PySem.EqNone.eq_str_none (bq I q (by simp))
  | bl j=>cases r;exact PySem.EqMixed.eq_str_bool (bq I q (by simp))
  | int j=>obtain⟨a,rfl⟩:=r;exact PySem.EqMixed.eq_str_int (bq I q (by simp))
  | str j=>obtain⟨a,rfl⟩:=r;exact eq_str (bq I q we)
  | _=>exact absurd (show false=true from e) bZ
 | byt i=>
  obtain⟨t,rfl⟩:=n;cases y with
  | byt j=>obtain⟨a,rfl⟩:=r;exact PySem.W.eq_bytes (bq I q wg)
  | _=>exact absurd (show false=true from e) bZ
 | _=>cases y <;> exact absurd (show false=true from e) bZ
theorem yM:ik X (compareOp .NotEq) KO:=by
 intro B s G H x y v u Q I n r h;obtain⟨e,q⟩:=h;cases x with
 | non=>
  cases n;cases y with
  | non=>cases r;exact PySem.EqNone.ne_none_none (bq I q (by simp))
  | bl j=>cases r;exact PySem.EqNone.ne_none_bool (bq I q (by simp))
  | int j=>obtain⟨a,rfl⟩:=r;exact PySem.EqNone.ne_none_int (bq I q (by simp))
  | str j=>obtain⟨a,rfl⟩:=r;exact PySem.EqNone.ne_none_str (bq I q (by simp))
  | _=>exact absurd (show false=true from e) bZ
 | bl i=>
  cases n;cases y with
  | non=>cases r;exact PySem.EqNone.ne_bool_none (bq I q (by simp))
  | bl j=>cases r;exact ne_bool (bq I q (congrArg not zF))
  | str j=>obtain⟨a,rfl⟩:=r;exact PySem.EqMixed.ne_bool_str (bq I q (by simp))
  | _=>exact absurd (show false=true from e) bZ
 | int i=>
  obtain⟨t,rfl⟩:=n;cases y with
  | non=>cases r;exact PySem.EqNone.ne_int_none (bq I q (by simp))
  | int j=>obtain⟨a,rfl⟩:=r;exact ne_int (bq I q (congrArg not wf))
  | str j=>obtain⟨a,rfl⟩:=r;exact PySem.EqMixed.ne_int_str (bq I q (by simp))
  | _=>exact absurd (show false=true from e) bZ
 | str i=>
  obtain⟨t,rfl⟩:=n;cases y with
  | non=>cases r;exact PySem.EqNone.ne_str_none (bq I q (by simp))
  | bl j=>cases r;exact PySem.EqMixed.ne_str_bool (bq I q (by simp))
  | int j=>obtain⟨a,rfl⟩:=r;exact PySem.EqMixed.ne_str_int (bq I q (by simp))
  | str j=>obtain⟨a,rfl⟩:=r;exact ne_str (bq I q (congrArg not we))
  | _=>exact absurd (show false=true from e) bZ
 | byt i=>
  obtain⟨t,rfl⟩:=n;cases y with
  | byt j=>obtain⟨a,rfl⟩:=r;exact PySem.W.ne_bytes (bq I q (congrArg not wg))
  | _=>exact absurd (show false=true from e) bZ
 | _=>cases y <;> exact absurd (show false=true from e) bZ
theorem FM:ik X (compareOp .Lt) (AD fun i j=>.bl (decide (i < j))):=A1 fun _ _ _ _ _ _ _ q=>lt_int q
theorem FN:ik X (compareOp .LtE) (AD fun i j=>.bl (decide (i≤j))):=A1 fun _ _ _ _ _ _ _ q=>le_int q
theorem FO:ik X (compareOp .Gt) (AD fun i j=>.bl (decide (j < i))):=A1 fun _ _ _ _ _ _ _ q=>gt_int q
theorem FP:ik X (compareOp .GtE) (AD fun i j=>.bl (decide (j≤i))):=A1 fun _ _ _ _ _ _ _ q=>ge_int q
theorem wU:ik X (compareOp .In) (fun x y H Q=>∃i j,x=.str i/\y=.str j/\Q (.bl (!(Builtin.Str.occurrences j i 0 j.length 1).isEmpty)) H):=by intro B s G H x y v u Q I r a h;obtain⟨i,j,rfl,rfl,q⟩:=h;obtain⟨t,rfl⟩:=r;obtain⟨e,rfl⟩:=a;exact in_str (bq I q rfl)
theorem Dg:ik X (compareOp .Is) (fun x y H Q=>y=.non/\Q (.bl (decide (x=.non))) H):=by
 intro B s G H x y v u Q I r a h;obtain⟨rfl,q⟩:=h;cases a;refine is_none_gen (bq I q ?_);cases x <;> first
  | (cases r;rfl)
  | (obtain⟨t,rfl⟩:=r;rfl)
theorem AX:ik X (compareOp .IsNot) (fun x y H Q=>y=.non/\Q (.bl (!decide (x=.non))) H):=by
 intro B s G H x y v u Q I r a h;obtain⟨rfl,q⟩:=h;cases a;refine isnot_none_gen (bq I q ?_);cases x <;> first
  | (cases r;rfl)
  | (obtain⟨t,rfl⟩:=r;rfl)
theorem Dq (b:Expr) (h:N≠.In:=by decide) (h2:N≠.NotIn:=by decide):behindInMarks N b=false:=by
 have e:(N == CmpOp.In)=false:=by cases N <;> first | rfl | exact absurd rfl h
 have x:(N == CmpOp.NotIn)=false:=by cases N <;> first | rfl | exact absurd rfl h2
 cases b <;> simp [behindInMarks,e,x]
theorem vJ {o:CmpOp}{r:R2} (f:ik X (compareOp o) r) (n:PE X a ta) (k:PE X b tb) (m:behindInMarks o b=false):PE X (.Compare a [o] [b] O) (CB r ta tb):=by intro B s G H Q I h;exact wpAny_Compare1 (D' n k I h fun v u p x y H2 e c t q=>f B p G H2 x y v u Q e c t q) m
noncomputable def ya (t:TE):TT:=fun G H Q=>t G H fun x H'=>∃k,x=.bl k/\Q k H'
theorem vG (o:ik X (compareOp N) r) (p:PE X a ta) (q:PE X b tb) (d:behindInMarks N b=false):PT X (.Compare a [N] [b] O) (ya (CB r ta tb)):=by
 intro B s G H Q I h;refine wpAny_isTrue_Compare1 (cY (p B s G H _ I h) fun v F ⟨x,U,f,j,w⟩=>cY (q B F G U _ f w) fun u K ⟨y,H2,m,l,g⟩=>
  cY (o B K G H2 x y v u _ m j l g) fun c P ⟨z,n,t,S,k,e,i⟩=>?_) d
 subst e;cases S;exact i' ⟨n,t,i⟩
noncomputable def uo (r e:R2) (ta tb tc:TE):TE:=fun G H Q=>ta G H fun x U=>tb G U fun y H2=>r x y H2 fun z h=>∃k,z=.bl k /\
 (if k=true then tc G h fun w a=>e y w a Q else Q (.bl false) h)
theorem yK (F:ik X (compareOp op) r) (o:ik X (compareOp N) r') (i:PE X a ta) (j:PE X b tb) (l:PE X c tc)
  (S:lastMarks [op,N] [b,c]=false:=by with_unfolding_all rfl):PE X (.Compare a [op,N] [b,c] O) (uo r r' ta tb tc):=by
 intro B s G H Q I h;refine Compare_chain (cY (i B s G H _ I h) fun v J ⟨x,U,p,C,K⟩=>chain_link (cY (j B J G U _ p K) fun u L ⟨y,H2,w,m,P⟩=>
  cY (F B L G H2 x y v u _ w C m P) fun d M ⟨z,n,f,D,k,e,q⟩=>?_)) S
 subst e;cases D;refine i' ?_;cases k with
 | false=>exact ite_ff ⟨.bl false,n,f,rfl,q⟩
 | true=>exact ite_tt (chain_last (cY (l B M G n _ f q) fun T R ⟨V,t,g,E,A⟩=>o B R G t y V u T Q g m E A))
theorem yu (C:ik X (compareOp op) r) (o:ik X (compareOp N) r') (F:PE X a ta) (K:PE X b tb) (P:PE X c tc)
  (A:lastMarks [op,N] [b,c]=false:=by with_unfolding_all rfl):PT X (.Compare a [op,N] [b,c] O) (ya (uo r r' ta tb tc)):=by
 intro B s G H Q I h;refine isTrue_chain (cY (F B s G H _ I h) fun v Z ⟨x,U,w,T,J⟩=>test_link (cY (K B Z G U _ w J) fun u s2 ⟨y,H2,g,m,L⟩=>
  cY (C B s2 G H2 x y v u _ g T m L) fun d s3 ⟨z,n,f,V,k,e,q⟩=>?_)) A
 subst e;cases V;refine i' ?_;cases k with
 | false=>obtain⟨k',l,E⟩:=q;cases l;exact ite_ff ⟨n,f,E⟩
 | true=>refine ite_tt (test_last (cY (P B s3 G n _ f q) fun w' s4 ⟨z',t,i,W,M⟩=>cY (o B s4 G t y z' u w' _ i m W M) fun d' s5 D=>?_));obtain⟨z2,p,j,Y,k2,S,R⟩:=D;subst S;cases Y;exact i' ⟨p,j,R⟩
noncomputable def Ee (K:FG) (x:V) (H:Hp) (k:Bool):Prop:=
 match x with
 | .non=>k=false
 | .bl b=>k=b
 | .int i=>k=(i != 0)
 | .str y=>y.length≤sizeLine/\k=((y.length:Int) != 0)
 | .byt y=>y.size≤sizeLine/\k=((y.size:Int) != 0)
 | .ref p=>(∃xs,gY K H p xs/\k=!xs.isEmpty)\/(∃xs,mQ K H p xs/\k=!xs.isEmpty)\/∃j,H p=some (.dK j)/\k=!j.isEmpty
 | _=>False
theorem uL (r:KV j N):(!N.isEmpty)=!j.isEmpty:=by cases r <;> rfl
theorem nC (r:aQ xs N):(!N.toArray.isEmpty)=!xs.isEmpty:=by cases r <;> simp
theorem jf:(sizeLine:Nat) < 2 ^ 63:=by rw [kR];decide
theorem Cy:JQ X (fun x H Q=>∃k,Ee X.K x H k/\Q k H):=by
 intro B s G H x v Q I n h;obtain⟨k,e,q⟩:=h;have g:=jf;have o:sizeLine=16777216:=kR;cases x with
 | non=>cases n;have a:k=false:=e;subst a;exact truthy_none ⟨H,I,q⟩
 | bl b=>cases n;have a:k=b:=e;subst a;exact i' ⟨H,I,q⟩
 | int i=>obtain⟨t,rfl⟩:=n;have a:k=(i != 0):=e;subst a;exact PySem.P.truthy_int ⟨H,I,q⟩
 | str y=>obtain⟨t,rfl⟩:=n;obtain⟨u,a⟩:y.length≤sizeLine/\k=((y.length:Int) != 0):=e;subst a;exact PySem.P.truthy_str (by lia) ⟨H,I.tok _,q⟩
 | byt y=>obtain⟨t,rfl⟩:=n;obtain⟨u,a⟩:y.size≤sizeLine/\k=((y.size:Int) != 0):=e;subst a;exact PySem.W.truthy_bytes (by lia) ⟨H,I.tok _,q⟩
 | ref p=>
  cases n;have a:(∃xs,gY X.K H p xs/\k=!xs.isEmpty)\/(∃xs,mQ X.K H p xs/\k=!xs.isEmpty)\/∃j,H p=some (.dK j)/\k=!j.isEmpty:=e;rcases a with ⟨xs,f,a⟩ | ⟨xs,f,a⟩ | ⟨j,f,a⟩
  .subst a;obtain⟨d,r,w,z⟩:=I.list f;have l:=r.length;exact wpAny_truthy_list w.isList (by simp only [List.size_toArray];lia) ⟨H,I.tok _,by rw [nC r];exact q⟩
  .subst a;obtain⟨d,r,w,z⟩:=I.tuple f;have l:=r.length;exact truthy_tuple w (by simp only [List.size_toArray];lia) ⟨H,I.tok _,by rw [nC r];exact q⟩
  .subst a;obtain⟨z,S,c,r,m⟩:j.length≤sizeLine/\(p == sysModules)=false/\∃c,KV j c/\s.heap.DictOf (bU X.prog X.w) p c:=I.hok p _ f;have l:j.length=c.length:=Paired.length r;exact wpAny_truthy_dict S m (by lia) ⟨H,I.tok _,by rw [uL r];exact q⟩
 | _=>exact (show False from e).elim
theorem yt (n:PE X a ta) (f:∀w,isTrue a X.env w=(do let v <- w;standAt a.pos;holding [v] (truthy v))) :
  PT X a (fun G H Q=>ta G H fun x H'=>∃k,Ee X.K x H' k/\Q k H'):=by
 intro B s G H Q I h;exact isTrue_plain (cY (n B s G H _ I h) fun v b z=>by obtain⟨x,U,e,r,q⟩:=z;exact Cy B b G U x v Q e r q) (f _)
theorem uD:ik X (binaryOp .Add) (fun x y H Q=>∃i j,x=.str i/\y=.str j/\i.length+j.length≤sizeLine/\Q (.str (i++j)) H):=by intro B s G H x y v u Q I r a h;obtain⟨i,j,rfl,rfl,z,q⟩:=h;obtain⟨t,rfl⟩:=r;obtain⟨e,rfl⟩:=a;exact add_str (fun e tk=>⟨.str (i++j),H,I.tok _,⟨_,rfl⟩,q⟩) z
theorem vals1 (r:aQ [x] Y):∃u,Y=[u]/\RelV x u:=by
 cases r with
 | cons h a=>cases a;exact⟨_,rfl,h⟩
theorem vals2 (r:aQ [x,y] Y):∃u w,Y=[u,w]/\RelV x u/\RelV y w:=by
 cases r with
 | cons h a=>
  cases a with
  | cons e s=>cases s;exact⟨_,_,rfl,h,e⟩
theorem zP:dh X (.builtin "abs") (fun xs H Q=>∃i,xs=[.int i]/\Q (.int (if i < 0 then -i else i)) H):=by intro B s G H xs Y Q I r h;obtain⟨i,rfl,q⟩:=h;obtain⟨u,rfl,t,rfl⟩:=vals1 r;exact call_abs_int fun u tk=>⟨.int (if i < 0 then -i else i),H,I.tok _,⟨_,rfl⟩,q⟩
theorem pj:dh X (.type "int") (fun xs H Q=>(∃i,xs=[.int i]/\Q (.int i) H)\/∃k,xs=[.bl k]/\Q (.int (if k then 1 else 0)) H):=by
 intro B s G H xs Y Q I r h;rcases h with ⟨i,rfl,q⟩ | ⟨k,rfl,q⟩
 .obtain⟨u,rfl,t,rfl⟩:=vals1 r;exact call_int_int ⟨.int i,H,I,⟨_,rfl⟩,q⟩
 .obtain⟨u,rfl,x⟩:=vals1 r;cases x;exact call_int_bool ⟨.int (if k then 1 else 0),H,I.tok _,⟨_,rfl⟩,q⟩
end
structure ObjM (h:Heap) (x dx C:Addr) (mA:SV):Prop where
 obj:h.get? x=some (PySem.W.instObj C dx)
 ns:h.Ns1 dx mA
 ne:dx≠x
theorem w4 (n:h.Ns1 dx mA):∃d,h.get? dx=some d/\∀name,PySem.W.lookIn name d=some (mA name):=by
 obtain⟨o,es,p,f,hd,s,_,m⟩:=n;refine⟨o,f,fun name=>?_⟩;have e:=m name;unfold nsFind findBy at e;rw [<- Array.find?_toList] at e;unfold PySem.W.lookIn;rw [hd];dsimp only;split
 .rename_i y q;rw [q] at e;exact congrArg some e
 .rename_i q;rw [q] at e;have a:es.toList.any (·.refKey)=false:=by
   rw [List.any_eq_false];intro y b;obtain⟨z,t,k⟩:=s y (Array.mem_toList_iff.mp b);simp [DictEntry.refKey,k]
  have x:¬es.toList.any (·.refKey)=true:=by rw [a];exact bZ
  rw [if_neg x];exact congrArg some e
variable {C:Addr}
theorem ObjM.look (I:ObjM h x dx C mA):∃o,PySem.W.InstAt h x (PySem.W.instObj C dx) C (some o)/\∀name,PySem.W.lookIn name o=some (mA name):=
 let ⟨o,a,l⟩:=w4 I.ns
 ⟨o,⟨I.obj,rfl,rfl,a⟩,l⟩
section
variable {prog:Program}{w:World}{A:Around}{E:VP}{s:Shared}{K:FG}{x dx C f:Addr}{mA:SV}{name:Str}{v:Value}
theorem Bh (X:K.In s.heap) (I:ObjM s.heap x dx C mA) (g:PySem.W.plainGet K C name=true) (n:PySem.W.hasDictIn K C=true)
  (e:PySem.W.findIn K (.ref C) name=some none) (k:mA name=some v) (a:PySem.W.handedIn v=true) (h:Q v { s with toks:=s.toks+1 }) :
  wpAny (model prog w) A (getAttr (.ref x) name N) Q E s:=by
 obtain⟨o,J,l⟩:=I.look;exact PySem.W.get_value X J (p_ g).1 (PySem.W.findObj_own n e rfl (by rw [l,k])) a h
theorem zt (X:K.In s.heap) (I:ObjM s.heap x dx C mA) (g:PySem.W.plainGet K C name=true)
  (a:PySem.W.findIn K (.ref C) name=some (some (.ref f))) (t:PySem.W.isFn K (.ref f)=true) (v:mA name=none) (h:Q (.ref f,[.ref x]) s) :
  wpAny (model prog w) A (getMethod (.ref x) name N) Q E s:=by
 obtain⟨o,J,l⟩:=I.look;exact PySem.W.method_fn X J (p_ g).1 (p_ g).2 a (kl.mp t) (by show (PySem.W.lookIn name o).map (·.isSome)=some false;rw [l,v];rfl) h
theorem Ax (X:K.In s.heap) (I:ObjM s.heap x dx C mA)
  (q:PySem.W.findIn K (.ref C) "__setattr__"=some (some (.builtin "object.__setattr__"))) (t:PySem.W.plainOver K C=true) (u:PySem.W.takerIn K C name=some none) (m:PySem.W.hasDictIn K C=true)
  (hw:PySem.Within mA N) (z:N.length≤sizeLine)
  (h:∀h',ObjM h' x dx C (fun y=>if y=name then some v else mA y)->Heap.SameBut dx s.heap h'->Q () { s with heap:=h',toks:=s.toks+2 }) :
  wpAny (model prog w) A (setAttr (.ref x) name v) Q E s:=by
 obtain⟨H,J,l⟩:=I.look;refine PySem.W.set_plain X J q (PySem.W.osa_open (s:={ s with toks:=s.toks+1 }) (r:=none) X J t u fun b=>?_);obtain⟨i,f,d⟩:=PySem.W.any_some m;have g:s.heap.get? x=some ⟨.ref C,some dx,.plain,#[]⟩:=I.obj;refine wpAny_bind (wpAny_pure (wpAny_bind (wpAny_bind (wpAny_loadPart g (wpAny_bind (PySem.W.Looks.here (s:={ s with toks:=s.toks+1 }) (PySem.W.looks_clsIn X f) ?_))))));rw [d];refine wpAny_pure (a:=some dx) (wpAny_bind (wpAny_pure (wpAny_bind ?_)));refine wpAny_nsSet1 (s:={ s with toks:=s.toks+1 }) I.ns fun h' n e=>?_;obtain⟨j,k,p,o,D,c⟩:=n.count (PySem.Within.cons name v hw);refine wpAny_bind (wpAny_lookBehind o (by rw [D];exact pastItsLine_dict (aU c (by rw [bx];lia))) ?_);exact wpAny_pure (h _ ⟨(e.2 _ (Ne.symm I.ne)).trans I.obj,n,I.ne⟩ e)
theorem yZ (X:K.In s.heap) (m:PySem.W.makesIn K C=true)
  (q:PySem.W.findIn K (.ref C) "__init__"=some (some (.ref f))) (x:PySem.W.typeIn K (.ref f)=some (.type "function"))
  (h:codeAny (model prog w) (A.under (.builtin "type.__call__" ⟨.ref C::N,kw⟩)) (.call (.ref f) ⟨.ref (s.heap.objs.size+1)::N,kw⟩) (PySem.W.InitBack (s.heap.objs.size+1) R)
   { s with heap:=(s.heap.push PySem.W.emptyDict).push (PySem.W.instObj C s.heap.objs.size) }) :
  codeAny (model prog w) A (.call (.ref C) ⟨N,kw⟩) R s:=by
 obtain⟨a,g,d,t,os⟩:=s;exact PySem.W.make_core (PySem.W.makes_of X m) (PySem.W.looks_findIn X q) (fun e=>PySem.W.bind_fn X e x) (.inl rfl) h
end
noncomputable def hV (f:Str) (v:V):List (Str×V)->List (Str×V)
 | []=>[(f,v)]
 | (g,x)::r=>if g=f then (g,v)::r else (g,x)::hV f v r
theorem lM (f g:Str) (v:V):∀fs:List (Str×V),(hV f v fs).lookup g=if g=f then some v else fs.lookup g
 | []=>by
  show List.lookup g [(f,v)]=_;by_cases h:g=f
  .have b:(g == f)=true:=kl.mpr h;simp only [List.lookup,b,if_pos h]
  .have b:(g == f)=false:=j3.mpr h;simp only [List.lookup,b,if_neg h]
 | (k,x)::r=>by
  have i:=lM f g v r;rw [show hV f v ((k,x)::r)=(if k=f then (k,v)::r else (k,x)::hV f v r) from rfl];by_cases a:k=f
  .rw [if_pos a];by_cases h:g=k
   .have b:(g == k)=true:=kl.mpr h;simp only [List.lookup,b,if_pos (h.trans a)]
   .have b:(g == k)=false:=j3.mpr h;simp only [List.lookup,b,if_neg (fun e:g=f=>h (e.trans a.symm))]
  .rw [if_neg a];by_cases h:g=k
   .have b:(g == k)=true:=kl.mpr h;simp only [List.lookup,b,if_neg (fun e:g=f=>a (h.symm.trans e))]
   .have b:(g == k)=false:=j3.mpr h;simp only [List.lookup,b];exact i
theorem lh (f:Str) (v:V):∀fs:List (Str×V),f ∈ (hV f v fs).map (·.1)/\∀g,g ∈ fs.map (·.1)->g ∈ (hV f v fs).map (·.1)
 | []=>⟨by simp [hV],fun g h=>by simp at h⟩
 | (k,x)::r=>by
  obtain⟨i,s⟩:=lh f v r;rw [show hV f v ((k,x)::r)=(if k=f then (k,v)::r else (k,x)::hV f v r) from rfl];by_cases a:k=f
  .rw [if_pos a];subst a;exact⟨by simp,fun g h=>by simpa using h⟩
  .rw [if_neg a];refine⟨?_,fun g h=>?_⟩
   .rw [List.map_cons];exact bg _ i
   .rw [List.map_cons] at h ⊢;rcases az.mp h with e | e
    .exact az.mpr (.inl e)
    .exact bg _ (s g e)
theorem lN (f:Str) (v:V):∀fs:List (Str×V),(hV f v fs).length≤fs.length+1
 | []=>by simp [hV]
 | (k,x)::r=>by
  have i:=lN f v r;rw [show hV f v ((k,x)::r)=(if k=f then (k,v)::r else (k,x)::hV f v r) from rfl];by_cases h:k=f
  .rw [if_pos h,bx,bx];lia
  .rw [if_neg h,bx,bx];lia
theorem i3.some_of {v:V}{o:OV} (r:i3 (some v) o):∃u,o=some u/\RelV v u:=by
 cases o with
 | none=>exact (show False from r).elim
 | some u=>exact⟨u,rfl,r⟩
theorem i3.none_of {o:OV} (r:i3 none o):o=none:=by
 cases o with
 | none=>rfl
 | some u=>exact (show False from r).elim
variable {v:V}
theorem xi (r:RelV v u):PySem.W.handedIn u=true:=by
 cases v with
 | non=>cases (show u=Value.none from r);rfl
 | bl b=>cases (show u=Value.bool b from r);rfl
 | int i=>obtain⟨t,e⟩:=(show ∃t,u=Value.int i t from r);cases e;rfl
 | str x=>obtain⟨t,e⟩:=(show ∃t,u=Value.str x t from r);cases e;rfl
 | byt b=>obtain⟨t,e⟩:=(show ∃t,u=Value.bytes b t from r);cases e;rfl
 | flt b=>obtain⟨t,e⟩:=(show ∃t,u=Value.float b t from r);cases e;rfl
 | ref a=>cases (show u=Value.ref a from r);rfl
 | ty n=>cases (show u=Value.type n from r);rfl
section
variable {P:Program}{w:World}{H H':Hp}{h h':Heap}{a C dx:Addr}{fs fs':List (Str×V)}
theorem mM (o:jH P w H h) (e:H a=some (.ins C dx fs)):∃mA,ObjM h a dx C mA/\(∀f,i3 (fs.lookup f) (mA f))/\PySem.Within mA (fs.map (·.1))/\fs.length≤1000/\H dx=some (.own a):=by obtain⟨d,z,x,b,mA,n,r,q⟩:=(show ci P w H h a (.ins C dx fs) from o a _ e);exact⟨mA,⟨b,n,x⟩,r,q,z,d⟩
end
structure Cls (K:FG) (C:Addr):Prop where
 pg:PySem.W.plainGet K C Str.empty=true
 hd:PySem.W.hasDictIn K C=true
 po:PySem.W.plainOver K C=true
 sa:PySem.W.findIn K (.ref C) "__setattr__"=some (some (.builtin "object.__setattr__"))
theorem Cls.get (c:Cls K C) (f:Str):PySem.W.plainGet K C f=true:=c.pg
noncomputable def ki (K:FG) (C:Addr) (f:Str):Prop:=PySem.W.findIn K (.ref C) f=some none
theorem ki.taker (n:ki K C f):PySem.W.takerIn K C f=some none:=by unfold PySem.W.takerIn;rw [show PySem.W.findIn K (.ref C) f=some none from n];rfl
structure Con (K:FG) (C:Addr) (f:Str) (v:V) (u:Value):Prop where
 at_:PySem.W.findIn K (.ref C) f=some (some u)
 rel:RelV v u
 get:PySem.W.specialIn K u "__get__"=some none
 cp:PySem.W.copiedNames.contains f=false
structure Meth (K:FG) (C:Addr) (m:Str) (f:Addr):Prop where
 at_:PySem.W.findIn K (.ref C) m=some (some (.ref f))
 fn:PySem.W.isFn K (.ref f)=true
 kp:PySem.W.keepIn K (.ref f)=true
section
variable {X:Cx}{B:PN}{G:St}{H:Hp}{s:Shared}{a C dx:Addr}{fs:List (Str×V)}{f:Str}{v:V}{A:Around}{E:VP}
theorem uP {b:Bool}{Q:VP} (I:Inv X B G H s) (e:H a=some (.ins C dx fs)) (c:Cls X.K C) (n:ki X.K C f) (l:fs.lookup f=some v)
  (h:∀u z,Inv X B G H z->RelV v u->Q u z):wpAny (model X.prog X.w) A (getAttr (.ref a) f b) Q E s:=by
 obtain⟨mA,O,r,_,_,_⟩:=mM I.hok e;obtain⟨u,k,x⟩:=i3.some_of (v:=v) (o:=mA f) (by rw [<- l];exact r f);exact Bh I.kIn O (c.get f) c.hd n k (xi x) (h u _ (I.tok _) x)
theorem nH {m:Str}{g:Addr}{p:Sem Bool}{Q:Value×LV->Shared->Prop} (I:Inv X B G H s) (e:H a=some (.ins C dx fs)) (c:Cls X.K C) (k:Meth X.K C m g) (l:fs.lookup m=none)
  (h:Q (.ref g,[.ref a]) s):wpAny (model X.prog X.w) A (getMethod (.ref a) m p) Q E s:=by
 obtain⟨mA,O,r,_,_,_⟩:=mM I.hok e;have n:mA m=none:=i3.none_of (by rw [<- l];exact r m);exact zt I.kIn O (c.get m) k.at_ k.fn n h
theorem uv (I:Inv X B G H s) (e:H a=some (.ins C dx fs)) (c:Cls X.K C) (n:ki X.K C f) (S:fs.length < 1000) (j:RelV y u)
  (h:∀z,Inv X B G (cm H a (.ins C dx (hV f y fs))) z->Q () z):wpAny (model X.prog X.w) A (setAttr (.ref a) f u) Q E s:=by
 obtain⟨mA,O,r,w,_,t⟩:=mM I.hok e;have i:(fs.map (·.1)).length≤sizeLine:=by rw [bP,kR];lia
 refine Ax I.kIn O c.sa c.po n.taker c.hd w i fun h' m l=>h _ ?_;have hd:∃o,h'.get? dx=some o:=let ⟨o,_,_,p,_⟩:=m.ns;⟨o,p⟩
 refine I.write (x:=a) (e:=dx) (by rw [e];exact True.intro) (.inr t) (fun b q v k=>(l.2 b v).trans k) hd ?_;refine⟨by rw [aE O.ne];exact t,?_,O.ne,m.obj,_,m.ns,fun g=>?_,fun g d=>?_⟩
 .have:=lN f y fs;lia
 .show i3 ((hV f y fs).lookup g) (if g=f then some u else mA g);rw [lM];by_cases q:g=f
  .rw [if_pos q,if_pos q];exact j
  .rw [if_neg q,if_neg q];exact r g
 .by_cases q:g=f
  .rw [q];exact (lh f y fs).1
  .refine (lh f y fs).2 g (w g fun k=>d ?_);show (if g=f then some u else mA g)=none;rw [if_neg q];exact k
theorem Inv.made (I:Inv X B G H s):Inv X B G (cm (cm H s.heap.objs.size (.own (s.heap.objs.size+1))) (s.heap.objs.size+1) (.ins C s.heap.objs.size []))
  { s with heap:=(s.heap.push PySem.W.emptyDict).push (PySem.W.instObj C s.heap.objs.size) }:=by
 have h:(s.heap.push PySem.W.emptyDict).get? s.heap.objs.size=some PySem.W.emptyDict:=Heap.get?_push_size s.heap rfl;have k:((s.heap.push PySem.W.emptyDict).push (PySem.W.instObj C s.heap.objs.size)).get? (s.heap.objs.size+1)=some (PySem.W.instObj C s.heap.objs.size):=by have:=Heap.get?_push_size (s.heap.push PySem.W.emptyDict) (o:=PySem.W.instObj C s.heap.objs.size) rfl;rwa [Heap.size_push] at this
 have f:(s.heap.push PySem.W.emptyDict).Ns s.heap.objs.size (fun _=>none):=⟨PySem.W.emptyDict,#[],_,h,rfl,(fun e c=>absurd c (by simp)),fun _=>rfl⟩;have x:=I.laid (a:=s.heap.objs.size) (o:=.own (s.heap.objs.size+1)) (h':=s.heap.push PySem.W.emptyDict) (t':=s.toks) (fun b u q=>Heap.get?_push_of_some _ q) (Nat.le_refl _) ⟨_,h⟩;refine x.laid (a:=s.heap.objs.size+1) (o:=.ins C s.heap.objs.size []) (t':=s.toks) (fun b u q=>Heap.get?_push_of_some _ q) (Nat.le_of_eq (Heap.size_push _ _)) ?_;have n:s.heap.objs.size≠s.heap.objs.size+1:=b_ (pK _);refine⟨by rw [aE n,aN],Nat.zero_le _,n,k,fun _=>none,(Heap.Ns1.of_empty f).at fun o q=>Heap.get?_push_of_some _ q,fun _=>True.intro,fun y m=>absurd rfl m⟩
theorem Bz (b:attributeBase e f N (eval e N)=eval e N)
  (h:wpAny (model prog w) A (eval e N) (fun o x=>wpAny (model prog w) A (getAttr o f true) Q E x) E s):wpAny (model prog w) A (eval (.Attribute e f O) N) Q E s:=
 Attribute_any_ h (by rw [arm_eval_Attribute,b])
end
noncomputable def I0 (K:FG) (ta:TE) (f:Str):TE:=fun G H Q=>ta G H fun x U=>∃a C dx fs v,x=.ref a/\U a=some (.ins C dx fs)/\Cls K C/\ki K C f/\fs.lookup f=some v/\Q v U
noncomputable def Jc (K:FG) (ta tv:TE) (f:Str):TS:=fun D G H=>tv G H fun y U=>ta G U fun x H2=>∃a C dx fs,x=.ref a/\H2 a=some (.ins C dx fs)/\Cls K C/\ki K C f/\fs.length < 1000 /\
 D.nx G (cm H2 a (.ins C dx (hV f y fs)))
section
variable {X:Cx}{o e value:Expr}{f:Str}{O pos' tpos:Pos}{ta tv:TE}
theorem C9 (t:PE X e ta) (r:attributeBase e f X.env (eval e X.env)=eval e X.env):PE X (.Attribute e f O) (I0 X.K ta f):=by intro B s G H Q I h;refine Bz r (cY (t B s G H _ I h) fun u w z=>?_);obtain⟨x,U,k,d,a,C,dx,fs,v,ex,m,c,n,l,q⟩:=z;subst ex;obtain rfl:u=Value.ref a:=d;exact uP k m c n l fun i g b p=>⟨v,U,b,p,q⟩
theorem CY (r:PE X o ta) (v:PE X value tv) (t:swapsWith value (some (.Attribute o f pos')) O.line X.env=pure false):PS X (.Assign [.Attribute o f pos'] value O) (Jc X.K ta tv f):=by intro B s G H D I h;refine plainObj_wpAny_Assign_Attribute (cY (v B s G H _ I h) fun u i ⟨y,U,e,g,q⟩=>cY (r B i G U _ e q) fun p j z=>?_) t;obtain⟨x,H2,k,w,a,C,dx,fs,ex,m,c,n,l,d⟩:=z;subst ex;obtain rfl:p=Value.ref a:=w;exact uv k m c n l g fun S b=>⟨G,_,b,d⟩
end
section
variable {X:Cx}{B:PN}{G:St}{H:Hp}{s:Shared}{A:Around}{E:VP}{Q:VP}{c:Value}{b:Bool}
inductive TyOf (K:FG) (H:Hp):V->Value->Prop where
 | non:TyOf K H .non (.type "NoneType")
 | bl (x:Bool):TyOf K H (.bl x) (.type "bool")
 | int (i:Int):TyOf K H (.int i) (.type "int")
 | str (x:Str):TyOf K H (.str x) (.type "str")
 | flt (x:UInt64):TyOf K H (.flt x) (.type "float")
 | lst {a:Addr}{xs:List V} (e:H a=some (.lst xs)):TyOf K H (.ref a) (.type "list")
 | frz {a:Addr}{o:Obj}{xs:List V} (e:H a=some (.frz o (.lst xs))):TyOf K H (.ref a) (.type "list")
 | tup {a:Addr}{xs:List V} (e:H a=some (.tup xs)):TyOf K H (.ref a) (.type "tuple")
 | dK {a:Addr}{kvs:List (bI×V)} (e:H a=some (.dK kvs)):TyOf K H (.ref a) (.type "dict")
 | dT {a:Addr}{kvs:List (List bI×V)} (e:H a=some (.dT kvs)):TyOf K H (.ref a) (.type "dict")
 | ins {a C dx:Addr}{fs:List (Str×V)} (e:H a=some (.ins C dx fs)) (cl:Cls K C) (ha:PySem.W.findIn K (.ref C) "__class__"=some (some (.builtin "object.__class__")))
   (hn:PySem.W.specialIn K (.builtin "object.__class__") "__get__"=some (some (.builtin "getset_descriptor.__get__"))) (htk:PySem.W.takesIn K (.builtin "object.__class__")=some true)
   (hm:PySem.W.mroIn K C (.type "object")=some true):TyOf K H (.ref a) (.ref C)
theorem gC (I:Inv X B G H s) (r:RelV x u) (ty:TyOf X.K H x t) (e:PySem.W.kitOne X.K t c=some b) (h:∀tk,Q (.bool b) { s with toks:=tk }) :
  wpAny (model X.prog X.w) A (call (.builtin "isinstance") [u,c]) Q E s:=by
 cases ty with
 | non=>cases (show u=Value.none from r);exact eI PySem.W.kitx_none I.kIn True.intro e (fun z=>nomatch z) h
 | bl y=>cases (show u=Value.bool y from r);exact eI PySem.W.kitx_bool I.kIn True.intro e (fun z=>nomatch z) h
 | int i=>obtain⟨t,q⟩:=(show ∃t,u=Value.int i t from r);cases q;exact eI PySem.W.kitx_int I.kIn True.intro e (fun z=>nomatch z) h
 | str y=>obtain⟨t,q⟩:=(show ∃t,u=Value.str y t from r);cases q;exact eI PySem.W.kitx_str I.kIn True.intro e (fun z=>nomatch z) h
 | flt y=>obtain⟨t,q⟩:=(show ∃t,u=Value.float y t from r);cases q;exact eI PySem.W.kitx_float I.kIn True.intro e (fun z=>nomatch z) h
 | @lst a xs f=>cases (show u=Value.ref a from r);obtain⟨_,_,n,_,J⟩:=(show ci X.prog X.w H s.heap a (.lst xs) from I.hok a _ f);exact eI mV I.kIn ⟨_,J,rfl⟩ e (fun z=>nomatch z) h
 | @frz a S xs f=>cases (show u=Value.ref a from r);obtain⟨_,_,_,n,_,J⟩:=(show ci X.prog X.w H s.heap a (.frz S (.lst xs)) from I.hok a _ f);exact eI mV I.kIn ⟨_,J,rfl⟩ e (fun z=>nomatch z) h
 | @tup a xs f=>cases (show u=Value.ref a from r);obtain⟨_,_,_,p⟩:=(show ci X.prog X.w H s.heap a (.tup xs) from I.hok a _ f);obtain⟨o,J,h2,_⟩:=p;exact eI PySem.W.kitx_tuple I.kIn ⟨o,J,h2.1⟩ e (fun z=>nomatch z) h
 | @dK a j f=>cases (show u=Value.ref a from r);obtain⟨_,_,K,_,p⟩:=(show ci X.prog X.w H s.heap a (.dK j) from I.hok a _ f);obtain⟨o,es,v,J,h2,_⟩:=p;exact eI PySem.W.kitx_dict I.kIn ⟨o,J,h2.1⟩ e (fun z=>nomatch z) h
 | @dT a j f=>cases (show u=Value.ref a from r);obtain⟨_,_,xs,_,o,es,v,J,h2,_⟩:=(show ci X.prog X.w H s.heap a (.dT j) from I.hok a _ f);exact eI PySem.W.kitx_dict I.kIn ⟨o,J,h2.1⟩ e (fun z=>nomatch z) h
 | @ins a C dx fs f l d g m w=>cases (show u=Value.ref a from r);obtain⟨mA,O,_⟩:=mM I.hok f;obtain⟨F,k,_⟩:=O.look;exact eI (PySem.W.kitx_own (l.get _) l.hd d g m w) I.kIn k e (fun z=>nomatch z) h
end
structure Room (k:Nat) (A:Around):Prop where
 hd:A.handled=none
 dp:A.depth+3 * k+5 < recursionLimit
 un:A.units+16 * k+200 < cLine
variable {k:Nat}
theorem Room.deeper (r:Room (k+1) A) (e:Env):Room k (A.deeper e):=
 ⟨r.hd,by have:=r.dp;show A.depth+1+3 * k+5 < _;lia,by have:=r.un;show A.units+3+16 * k+200 < _;lia⟩
variable {kw:List (Str×Value)}
theorem uG:(A.under (.builtin "type.__call__" ⟨.ref C::Y,kw⟩)).depth=A.depth+1:=by first | rfl | simp [Around.under,Code.weight,Code.isCreation,Code.isGuard,Code.isCaller,Code.frames,Code.isFrame,guardIds]
theorem uF:(A.under (.builtin "type.__call__" ⟨.ref C::Y,kw⟩)).units=A.units+1:=by first | rfl | simp [Around.under,Code.cUnits,Code.frames,Code.isFrame]
theorem Room.make (r:Room (k+1) A) (C:Addr) (Y:LV) (kw:List (Str×Value)):Room k (A.under (.builtin "type.__call__" ⟨.ref C::Y,kw⟩)):=
 ⟨r.hd,by have:=r.dp;rw [uG];lia,by have:=r.un;rw [uF];lia⟩
theorem Room.depth (r:Room k A):A.depth < recursionLimit:=by have:=r.dp;lia
noncomputable def Fh:TA:=fun _ H Q=>Q [] H
noncomputable def Fm (ta:TE) (tr:TA):TA:=fun G H Q=>ta G H fun x U=>tr G U fun xs H2=>Q (x::xs) H2
section
variable {X:Cx}{e:Expr}{es:Ab}{te:TE}{t:TA}{O:Pos}
theorem hX:PA X [] Fh:=fun _ _ _ _ H Q I h=>jZ ⟨[],H,I,.nil,h⟩
theorem eY (k:PE X e te) (r:PA X es t) (f:starEach (e::es) X.env=(false,eval e X.env)::starEach es X.env:=by rfl):PA X (e::es) (Fm te t):=by intro O B s G H Q I h;rw [f];show wpAny _ _ (spliced ((false,eval e X.env)::backTo O (starEach es X.env))) _ _ s;refine Calls.spliced_cons (cY (k B s G H _ I h) fun u p z=>?_);obtain⟨x,U,a,c,q⟩:=z;exact cY (r O B p G U _ a q) fun Y v z=>by obtain⟨xs,H2,n,m,b⟩:=z;exact⟨x::xs,H2,n,.cons c m,b⟩
noncomputable def IR (t:TA):TE:=fun G H Q=>t G H fun xs U=>xs.length≤sizeLine/\∀p,U p=none->Q (.ref p) (cm U p (.tup xs))
noncomputable def IX (t:TA):TE:=fun G H Q=>t G H fun xs U=>xs.length≤sizeLine/\∀p,U p=none->Q (.ref p) (cm U p (.lst xs))
theorem qt {N} (h:PA X es t):PE X (.Tuple es N O) (IR t):=by intro B s G H Q I n;refine wpAny_Tuple_spliced (cY (h O B s G H _ I n) fun Y x k=>?_);obtain⟨xs,U,a,r,z,q⟩:=k;refine⟨by rw [<- r.length];exact z,?_⟩;have f:U x.heap.objs.size=none:=a.hok.fresh (Nat.le_refl _);refine⟨.ref x.heap.objs.size,cm U x.heap.objs.size (.tup xs),a.laid (t':=x.toks) (fun b u e=>Heap.get?_push_of_some _ e) (Nat.le_refl _) ?_,rfl,q _ f⟩;exact⟨z,Y,r,lI.new _ _⟩
theorem yD (h:PA X es t):PE X (.List es O) (IX t):=by intro B s G H Q I n;refine wpAny_List_spliced (cY (h O B s G H _ I n) fun Y x k=>?_);obtain⟨xs,U,a,r,z,q⟩:=k;refine⟨by rw [<- r.length];exact z,?_⟩;have f:U x.heap.objs.size=none:=a.hok.fresh (Nat.le_refl _);refine⟨.ref x.heap.objs.size,cm U x.heap.objs.size (.lst xs),a.laid (t':=x.toks) (fun b u e=>Heap.get?_push_of_some _ e) (Nat.le_refl _) ?_,rfl,q _ f⟩;exact⟨z,Y,0,r,Heap.get?_push_size _ rfl⟩
end
noncomputable abbrev Sp:=List V->Hp->VK->XK->Prop
noncomputable abbrev xI:=List Env->Hp->Shared->XK->VP
structure Env0 (P:Program) (w:World) (K:FG) (mg:SV) (base:Heap) (A:Around) (outer:List Env) (s:Shared) (H:Hp):Prop where
 frames:A.frames=some outer
 mod:Mod K mg base
 bs:∀b o,base.get? b=some o->s.heap.get? b=some o/\H b=none
 bsz:base.objs.size≤s.heap.objs.size
 funs:s.heap.FunFrames base outer
 frf:∀b ∈ zv outer,H b=none
 hok:jH P w H s.heap
 bare:AllBare s.gens
noncomputable def CE (o:List Env) (P:Program) (w:World) (H:Hp) (s:Shared) (Q:VK) (u:Value) (z:Shared):Prop:=
 ∃v H',z.os=s.os/\AllBare z.gens/\Un (zv o) [] H H' s.heap z.heap/\jH P w H' z.heap/\RelV v u/\Q v H'
noncomputable def CR (CX:xI) (o:List Env) (P:Program) (w:World) (H:Hp) (s:Shared) (Q:VK) (E:XK) (r:Result) (z:Shared):Prop:=
 match r with
 | .ok (.ret u)=>CE o P w H s Q u z
 | .ok _=>False
 | .error e=>CX o H s E e z
structure FnOk (P:Program) (w:World) (K:FG) (mg:SV) (base:Heap) (CX:xI) (k:Nat) (f:Addr) (fd:FuncData) (ps:LS) (sp:Sp):Prop where
 len:∀vs H Q E,sp vs H Q E->vs.length=ps.length
 run:∀(A:Around) (outer:List Env) (s:Shared) (H:Hp) (args:Args) (us:LV) (vs:List V) (Q:VK) (E:XK),Room k A->Env0 P w K mg base A outer s H->BindsTo s fd args (ps.zip us)->aQ vs us->sp vs H Q E ->
  codeAny (model P w) A (.call (.ref f) args) (CR CX outer P w H s Q E) s
theorem FnOk.imp (F:FnOk P w K mg base CX k f fd ps sp)
  (h:∀v H Q E,N v H Q E->sp v H Q E):FnOk P w K mg base CX k f fd ps N:=
 ⟨fun v H Q E q=>F.len v H Q E (h _ _ _ _ q),fun A o s H a Y v Q E r e b n x=>F.run A o s H a Y v Q E r e b n (h _ _ _ _ x)⟩
theorem Env0.make (e:Env0 P w K mg base A N s H) (C:Addr) (Y:LV) (kw:List (Str×Value)) :
  Env0 P w K mg base (A.under (.builtin "type.__call__" ⟨.ref C::Y,kw⟩)) N s H:=⟨by first | exact e.frames | (simpa [Around.under,Code.envs,Code.isFrame,pushEnvs] using e.frames),e.mod,e.bs,e.bsz,e.funs,e.frf,e.hok,e.bare⟩
section
variable {X:Cx}{B:PN}{G:St}{H:Hp}{s z:Shared}
theorem Inv.env0 (I:Inv X B G H s):Env0 X.prog X.w X.K X.mg X.base X.A X.stack s H:=
 ⟨I.ok.frames,I.ok.mod,I.bs,aU I.ok.bsz I.sz,I.stack,I.stkFree,I.hok,I.bare⟩
theorem Inv.after (I:Inv X B G H s) (h:CE X.stack X.prog X.w H s Q u z):EP X B G Q u z:=by obtain⟨v,H',os,a,un,o,r,q⟩:=h;obtain⟨n,g,d,t,e⟩:=z;obtain rfl:e=s.os:=os;exact⟨v,H',I.call (h':=n) (g':=g) (d':=d) (t':=t) (ch:=[]) un o a (fun b x=>absurd x (by simp)),r,q⟩
end
noncomputable def Fn (sp:Sp) (dvs:List V) (E:XK) (t:TA):TE:=fun G H Q=>t G H fun v U=>sp (v++dvs) U Q E
noncomputable def yb (C:Addr) (m:Str) (sp:Sp) (dvs:List V) (E:XK) (ta:TE) (t:TA):TE:=fun G H Q=>ta G H fun x U=>∃a dx fs,x=.ref a/\U a=some (.ins C dx fs)/\fs.lookup m=none /\
 t G U fun v H2=>sp (x::(v++dvs)) H2 Q E
noncomputable def Fj (C:Addr) (sp:Sp) (dvs:List V) (E:XK) (t:TA):TE:=fun G H Q=>t G H fun s U=>∀x dx,U x=none->U dx=none->dx≠x ->
 sp (.ref x::(s++dvs)) (cm (cm U dx (.own x)) x (.ins C dx [])) (fun v H2=>v=.non/\Q (.ref x) H2) E
noncomputable def Binds (K:FG) (fd:FuncData) (ps:LS) (ds:LV):Prop:=
 ∀(s:Shared) (Y:LV),K.In s.heap->(Y++ds).length=ps.length->BindsTo s fd ⟨Y,[]⟩ (ps.zip (Y++ds))
theorem Binds.all (h:∀Y:LV,Y.length=ps.length->bindArgs fd ⟨Y,[]⟩=pure (ps.zip Y)):Binds K fd ps []:=fun s Y _ l=>by rw [List.append_nil] at l ⊢;exact .of_eq (h Y l)
noncomputable def kh (CX:xI) (X:Cx) (E:XK):Prop:=∀(B:PN) (G:St) (H:Hp) (s:Shared) (e:Value) (z:Shared),Inv X B G H s->CX X.stack H s E e z->X.xe e z
section
variable {X:Cx}{CX:xI}{k:Nat}{f C:Addr}{fd:FuncData}{ps:LS}{sp:Sp}{dvs:List V}{ds:LV}{E:XK}{x m:Str}{p O apos:Pos}{e o:Expr}{es:Ab}{ta:TE}{t:TA}
theorem ux (F:FnOk X.prog X.w X.K X.mg X.base CX k f fd ps sp) (n:Room k X.A) (b:Binds X.K fd ps ds) (hd:aQ dvs ds) (c:kh CX X E)
  (I:Inv X B G H s) (r:aQ N Y) (h:sp (N++dvs) H Q E):wpAny (model X.prog X.w) X.A (call (.ref f) Y) (EP X B G Q) X.xe s:=by
 have x:aQ (N++dvs) (Y++ds):=r.append hd;have a:(Y++ds).length=ps.length:=by rw [<- x.length];exact F.len _ _ _ _ h
 refine wpAny_call (codeAny_mono (F.run X.A X.stack s H ⟨Y,[]⟩ (Y++ds) (N++dvs) Q E n I.env0 (b s Y I.kIn a) x h) fun r z q=>?_);cases r with
 | error e=>exact c B G H s e z I q
 | ok l=>
  cases l with
  | ret u=>exact I.after q
  | next=>exact False.elim q
  | brk=>exact False.elim q
  | cont=>exact False.elim q
theorem qu (F:FnOk X.prog X.w X.K X.mg X.base CX k f fd ps sp) (w:Room k X.A) (g:Gl X x) (v:X.mg x=some (.ref f)) (m:PySem.W.keepIn X.K (.ref f)=true) (b:Binds X.K fd ps ds) (hd:aQ dvs ds) (u:kh CX X E)
  (n:PA X (e::es) t) (d:(x == ("__debug__":Str))=false:=by decide) (c:starEach (e::es) X.env=(false,eval e X.env)::starEach es X.env:=by rfl) (l:(backTo O (starEach es X.env)).any (·.1)=false:=by rfl) :
  PE X (.Call (.Name x p) (e::es) [] O) (Fn sp dvs E t):=by
 intro B s G H Q I h;refine kT (qH I g v ?_ d);refine p7 (h₀:=X.base) I.ok.mod.kin m (cY (n O B s G H _ I h) fun Y i z=>?_) c l;obtain⟨j,U,a,r,q⟩:=z;refine⟨a.kIn,?_⟩;exact ux F w b hd u a r q
theorem AT (j:PE X o ta) (c:Cls X.K C) (d:Meth X.K C m f) (F:FnOk X.prog X.w X.K X.mg X.base CX k f fd ps sp) (y:Room k X.A) (i:Binds X.K fd ps ds) (hd:aQ dvs ds) (K:kh CX X E) (g:PA X (e::es) t)
  (n:starEach (e::es) X.env=(false,eval e X.env)::starEach es X.env:=by rfl) (p:(backTo O (starEach es X.env)).any (·.1)=false:=by rfl)
  (S:eval (.Call (.Attribute o m apos) (e::es) [] O) X.env=(do
   let N <- eval o X.env
   standAt apos.atName
   let (f,first) <- holding [N] (getMethod N m pl)
   callWith O f first (backTo O (starEach (e::es) X.env)) (backToKw O (keywordEach [] X.env))):=by rfl) :
  PE X (.Call (.Attribute o m apos) (e::es) [] O) (yb C m sp dvs E ta t):=by
 intro B s G H Q I h;refine PySem.W.methodCall_KW (pl:=pl) (cY (j B s G H _ I h) fun u D z=>?_) S;obtain⟨x,U,b,A,a,dx,fs,ex,w,l,q⟩:=z;subst ex;obtain rfl:u=Value.ref a:=A;refine nH b w c d l ?_;refine p7 (first:=[.ref a]) (h₀:=X.base) I.ok.mod.kin d.kp (cY (g O B D G U _ b q) fun Y L z=>?_) n p;obtain⟨J,H2,v,r,P⟩:=z;refine⟨v.kIn,?_⟩;exact ux (Y:=.ref a::Y) (N:=.ref a::J) F y i hd K v (.cons rfl r) P
theorem yC (t:PE X o ta) (c:Cls X.K C) (n:Meth X.K C m f) (F:FnOk X.prog X.w X.K X.mg X.base CX k f fd ps sp) (p:Room k X.A) (r:Binds X.K fd ps ds) (hd:aQ dvs ds) (d:kh CX X E)
  (v:eval (.Call (.Attribute o m apos) [] [] O) X.env=(do
   let N <- eval o X.env
   standAt apos.atName
   let (f,first) <- holding [N] (getMethod N m pl)
   callWith O f first (backTo O (starEach [] X.env)) (backToKw O (keywordEach [] X.env))):=by rfl) :
  PE X (.Call (.Attribute o m apos) [] [] O) (yb C m sp dvs E ta Fh):=by
 intro B s G H Q I h;refine PySem.W.methodCall_KW (pl:=pl) (cY (t B s G H _ I h) fun u g z=>?_) v;obtain⟨x,U,e,w,a,dx,fs,ex,b,l,q⟩:=z;subst ex;obtain rfl:u=Value.ref a:=w;refine nH e b c n l ?_;exact PySem.W.callWith_K0 (first:=[.ref a]) e.kIn n.kp (ux (Y:=[.ref a]) (N:=[.ref a]) F p r hd d e (.cons rfl .nil) q)
structure Mk (K:FG) (C f:Addr):Prop where
 makes:PySem.W.makesIn K C=true
 init:PySem.W.findIn K (.ref C) "__init__"=some (some (.ref f))
 fn:PySem.W.isFn K (.ref f)=true
 kp:PySem.W.keepIn K (.ref C)=true
theorem ym (M:Mk X.K C f) (F:FnOk X.prog X.w X.K X.mg X.base CX k f fd ps sp) (d:Room (k+1) X.A) (t:Binds X.K fd ps ds) (hd:aQ dvs ds)
  (w:kh CX X E) (I:Inv X B G H s) (r:aQ N Y)
  (h:∀x dx,H x=none->H dx=none->dx≠x->sp (.ref x::(N++dvs)) (cm (cm H dx (.own x)) x (.ins C dx [])) (fun v H2=>v=.non/\Q (.ref x) H2) E) :
  wpAny (model X.prog X.w) X.A (call (.ref C) Y) (EP X B G Q) X.xe s:=by
 have n:=h (s.heap.objs.size+1) s.heap.objs.size (I.hok.fresh (mB _)) (I.hok.fresh (Nat.le_refl _)) (b_ (pK _));have a:=Inv.made (C:=C) I;have b:aQ (V.ref (s.heap.objs.size+1)::(N++dvs)) (Value.ref (s.heap.objs.size+1)::(Y++ds)):=.cons rfl (r.append hd);have p:(Value.ref (s.heap.objs.size+1)::Y++ds).length=ps.length:=by have e:=b.length;rw [F.len _ _ _ _ n] at e;exact e.symm
 refine wpAny_call (yZ (f:=f) I.kIn M.makes M.init (kl.mp M.fn) (codeAny_mono (F.run _ X.stack _ _ ⟨Value.ref (s.heap.objs.size+1)::Y,[]⟩ (Value.ref (s.heap.objs.size+1)::(Y++ds)) _ _ E (d.make C Y [])
  (a.env0.make C Y []) (t _ (Value.ref (s.heap.objs.size+1)::Y) a.kIn p) b n) fun r z q=>?_))
 cases r with
 | error e=>exact w B G _ _ e z a q
 | ok l=>
  cases l with
  | ret u=>obtain⟨v,H',c,i,m,g⟩:=a.after q;subst m;exact⟨i,⟨V.ref (s.heap.objs.size+1),H',c,rfl,g⟩⟩
  | next=>exact False.elim q
  | brk=>exact False.elim q
  | cont=>exact False.elim q
theorem AU (M:Mk X.K C f) (F:FnOk X.prog X.w X.K X.mg X.base CX k f fd ps sp) (v:Room (k+1) X.A) (g:Gl X x) (m:X.mg x=some (.ref C)) (b:Binds X.K fd ps ds) (hd:aQ dvs ds) (w:kh CX X E)
  (n:PA X (e::es) t) (d:(x == ("__debug__":Str))=false:=by decide) (c:starEach (e::es) X.env=(false,eval e X.env)::starEach es X.env:=by rfl) (l:(backTo O (starEach es X.env)).any (·.1)=false:=by rfl) :
  PE X (.Call (.Name x p) (e::es) [] O) (Fj C sp dvs E t):=by
 intro B s G H Q I h;refine kT (qH I g m ?_ d);refine p7 (h₀:=X.base) I.ok.mod.kin M.kp (cY (n O B s G H _ I h) fun Y u z=>?_) c l;obtain⟨i,U,a,r,q⟩:=z;refine⟨a.kIn,?_⟩;exact ym M F v b hd w a r q
end
section
variable {X:Cx}{CX:xI}{k:Nat}{f C:Addr}{fd:FuncData}{ps ks:LS}{sp:Sp}{E:XK}{x m:Str}{p O apos kpos:Pos}{e o:Expr}{es:Ab}{kws:List Keyword}{te ta:TE}{t tk:TA}{nm:Option Str}
structure KBinds (K:FG) (fd:FuncData) (ps ks:LS) (g:LV->LV->LV) (gV:List V->List V->List V):Prop where
 to:∀(s:Shared) (us ws:LV),K.In s.heap->(g us ws).length=ps.length->BindsTo s fd ⟨us,ks.zip ws⟩ (ps.zip (g us ws))
 rel:∀{vs:List V}{us:LV}{zs:List V}{ws:LV},aQ vs us->aQ zs ws->aQ (gV vs zs) (g us ws)
variable {g:LV->LV->LV}{gV:List V->List V->List V}
end
structure FnScope (N P:LS) (sc:Scope):Prop where
 kind:sc.kind=.function
 co:sc.isCoroutine=false
 gen:sc.isGenerator=false
 nd:N.Nodup
 pre:N.take P.length=P
 par:∀x ∈ P,sc.names.lookup x=some .local\/sc.names.lookup x=some .cell
 nofree:∀y ∈ sc.names,y.2≠.free
theorem pu {kindOf:Str->Option NameKind}{x:Str}:∀{b:List (Str×Value)}{m:SV},(∀v,(x,v) ∉ b)->bindL kindOf b m x=m x
 | [],_,_=>rfl
 | (n,v)::r,m,h=>by
  unfold bindL;rw [pu fun w hw=>h w (bg _ hw)];split
  .have:x≠n:=by rintro rfl;exact h v List.mem_cons_self
   simp [this]
  .rfl
theorem pB {kindOf:Str->Option NameKind}{x:Str}:∀{b:List (Str×Value)}{m:SV},(∀v,(x,v) ∉ b)->bindC kindOf b m x=m x
 | [],_,_=>rfl
 | (n,v)::r,m,h=>by
  unfold bindC;rw [pB fun w hw=>h w (bg _ hw)];split
  .rfl
  .have:x≠n:=by rintro rfl;exact h v List.mem_cons_self
   simp [this]
theorem pA {kindOf:Str->Option NameKind}{x:Str}{v:Value}:∀{P:LS}{s:LV}{i:Nat}{m:SV},P.Nodup->P[i]? = some x->s[i]? = some v->kindOf x=some .local ->
  bindL kindOf (P.zip s) m x=some v
 | [],_,_,_,_,h,_,_=>by simp at h
 | _::_,[],_,_,_,_,h,_=>by simp at h
 | p::P,w::s,0,m,n,J,h2,k=>by simp at J h2;subst J;subst h2;show bindL kindOf ((p,w)::P.zip s) m p=_;unfold bindL;rw [pu fun v a=>(List.nodup_cons.mp n).1 (List.of_mem_zip a).1,if_pos k];simp
 | p::P,w::s,i+1,m,n,J,h2,k=>by show bindL kindOf ((p,w)::P.zip s) m x=_;unfold bindL;exact pA (i:=i) (List.nodup_cons.mp n).2 (by simpa using J) (by simpa using h2) k
theorem pC {kindOf:Str->Option NameKind}{x:Str}{v:Value}:∀{P:LS}{s:LV}{i:Nat}{m:SV},P.Nodup->P[i]? = some x->s[i]? = some v->kindOf x≠some .local ->
  bindC kindOf (P.zip s) m x=some v
 | [],_,_,_,_,h,_,_=>by simp at h
 | _::_,[],_,_,_,_,h,_=>by simp at h
 | p::P,w::s,0,m,n,J,h2,k=>by simp at J h2;subst J;subst h2;show bindC kindOf ((p,w)::P.zip s) m p=_;unfold bindC;rw [pB fun v a=>(List.nodup_cons.mp n).1 (List.of_mem_zip a).1,if_neg k];simp
 | p::P,w::s,i+1,m,n,J,h2,k=>by show bindC kindOf ((p,w)::P.zip s) m x=_;unfold bindC;exact pC (i:=i) (List.nodup_cons.mp n).2 (by simpa using J) (by simpa using h2) k
noncomputable def start (N:LS) (v:List V):St:=v.map some++List.replicate (N.length-v.length) none
noncomputable def tF (CX:xI) (P:Program) (w:World) (K:FG) (mg:SV) (base:Heap) (N:LS) (q:Str) (c:Scope) (f:Addr) (d:Value) (A:Around) (o:List Env) (s:Shared) (H:Hp) (E:XK):Cx where
 prog:=P
 w:=w
 K:=K
 mg:=mg
 base:=base
 A:=A.deeper (envOfC q c s.heap.objs.size f d)
 N:=N
 s₀:=s
 H₀:=H
 env:=envOfC q c s.heap.objs.size f d
 outer:=o
 stack:=envOfC q c s.heap.objs.size f d::o
 ex:=[]
 calm:=true
 fn:=fun _=>true
 pn:=[]
 xe:=fun e z=>wpAny (model P w) (A.deeper (envOfC q c s.heap.objs.size f d)) (leaving (envOfC q c s.heap.objs.size f d) e) (fun _ h=>CX o H s E e h) (fun x h=>CX o H s E x h) z
variable {x:Str}
theorem tN {sc:Scope} (h:sc.names.lookup x=some .cell):∃c,(cellsFrom n sc.names []).lookup x=some c:=by have q:=PySem.W.cellsFrom_some sc.names n [] (.inl h);exact Option.isSome_iff_exists.mp q
theorem xb {CX:xI}{P:Program}{w:World}{K:FG}{mg:SV}{base:Heap}{N ps:LS}{l:Str}{o:Scope}{f:Addr}{D:Value}{A:Around}{t:List Env}{s L:Shared}{H:Hp}{E:XK}{Y:LV}{F:List V}
  (S:FnScope N ps o) (hd:A.handled=none) (d:Env0 P w K mg base A t s H) (T:F.length=ps.length) (r:aQ F Y)
  (x:InCallC s s.heap.objs.size (bindL (envOfC l o s.heap.objs.size f D).kindOf (ps.zip Y) fun _=>none) (cellsFrom (s.heap.objs.size+1) o.names []) (bindC (envOfC l o s.heap.objs.size f D).kindOf (ps.zip Y) fun _=>none) L) :
  Inv (tF CX P w K mg base N l o f D A t s H E) [] (start N F) H L:=by
 have O:ps.length≤N.length:=by have:=congrArg List.length S.pre;rw [io] at this;lia
 obtain⟨J,tk,rfl,G⟩:=x.done;have j:∀b:Addr,b ∉ (tF CX P w K mg base N l o f D A t s H E).ex:=fun b z=>absurd (show b ∈ ([]:List Addr) from z) (by simp);refine⟨⟨d.mod,S.kind,rfl,rfl,Nat.le_refl _,fun y z c J h2=>?_,fun y g=>?_,fun y c _ h=>?_,fun _=>hd,Around.frames_deeper d.frames,.inr ⟨rfl,rfl⟩,fun b z=>absurd z (j b),d.bs,d.bsz,fun b _ _=>j b,fun b z=>absurd z (j b),d.funs,d.frf⟩,
  rfl,d.bare,Un.kept G,⟨_,x.toInCall.ns,fun i y v J h2 R=>?_⟩,fun y c h=>⟨_,x.cell y c h⟩,d.hok.fresh (Nat.le_refl _),fun y c h=>?_,fun p B=>absurd (show p ∈ ([]:PN) from B) (by simp),d.hok.kept G,?_⟩
 .exact name_of_addr x.apart (mX J) (mX h2)
 .have g:o.names.lookup y=some .cell\/o.names.lookup y=some .free:=g;rcases g with g | g
  .exact tN g
  .exact absurd rfl (S.nofree _ (mX g))
 .exact il (x.above y c (mX h))
 .have q:i < F.length:=by
   unfold start at h2;by_cases q:i < F.length
   .exact q
   .rw [fZ (by simpa using q)] at h2;rw [t_] at h2;split at h2 <;> cases h2
  have M:F[i]? = some v:=by
   unfold start at h2;rw [List.getElem?_append_left (by simpa using q),List.getElem?_map] at h2;cases e:F[i]? with
   | none=>rw [e] at h2;cases h2
   | some a=>rw [e] at h2;cases h2;rfl
  obtain⟨u,I,Q⟩:=r.get M;have B:ps[i]? = some y:=by rw [<- S.pre,iq (by lia)];exact J
  have C:ps.Nodup:=by rw [<- S.pre];exact S.nd.sublist (List.take_sublist _ _)
  refine⟨u,Q,?_⟩;rcases S.par y (bA B) with k | k
  .exact .inl ⟨k,pA C B I k⟩
  .obtain⟨c,e⟩:=tN (n:=s.heap.objs.size+1) k;refine .inr ⟨.inl k,c,e,?_⟩;have m:=x.cell y c e;rw [pC C B I (by show o.names.lookup y≠_;rw [k];decide)] at m;exact m
 .exact d.hok.fresh (il (x.above y c (mX h)))
 .unfold start;show _=N.length;rw [cO,bP,List.length_replicate];lia
theorem GK {CX:xI}{P:Program}{w:World}{K:FG}{mg:SV}{base:Heap}{k:Nat}{f:Addr}{name a:Str}{p:Arguments}{m:List Stmt}{c:Scope}{dV kV B pm d Z oc:Value}{U od:Option Addr}
  {R:Array (OV)}{N ps:LS}{sp:Sp} (lk:K.lookup f=some ⟨oc,od,.func (PySem.W.fnOf name a p m c dV kV B pm U d Z),R⟩) (L:PySem.W.codeIn K d a=true) (S:FnScope N ps c)
  (len:∀g H Q E,sp g H Q E->g.length=ps.length)
  (j:∀(A:Around) (h:List Env) (s:Shared) (H:Hp) (g:List V) (Q:VK) (E:XK),Room k (A.deeper (envOfC a c s.heap.objs.size f d))->sp g H Q E ->
   ∃t,mx (tF CX P w K mg base N a c f d A h s H E) m t/\t { nx:=fun _ H'=>Q .non H',rt:=Q } (start N g) H) :
  FnOk P w K mg base CX (k+1) f (PySem.W.fnOf name a p m c dV kV B pm U d Z) ps sp:=by
 refine⟨len,fun A h s H W Y g Q E M C hb r G=>?_⟩;have hl:=len _ _ _ _ G;have X:K.In s.heap:=C.mod.kin.keeps fun b o e=>(C.bs b o e).1;have O:s.heap.NoLimit:=C.mod.nolimit.keeps fun b o e=>(C.bs b o e).1;have l:∀y ∈ ps.zip Y,c.names.lookup y.1=some .local\/(c.names.lookup y.1=some .cell/\((cellsFrom (s.heap.objs.size+1) c.names []).lookup y.1).isSome=true):=fun ⟨n,v⟩ hy=>by
  rcases S.par n (List.of_mem_zip hy).1 with q | q
  .exact .inl q
  .exact .inr ⟨q,PySem.W.cellsFrom_some _ _ _ (.inl q)⟩
 refine codeAny_call_function M.depth (X _ _ lk) rfl S.co S.gen rfl (PySem.W.codeRec_of X L) (hb _ _ _ _ ?_);refine wpAny_newFunctionEnv_cells S.kind l fun env he s1 x=>?_;subst he;refine⟨O.keeps x.toInCall.keep,codeAny_func ?_⟩;obtain⟨t,ht,hq⟩:=j A h s H g Q E (M.deeper _) G;have I:Inv (tF CX P w K mg base N a c f d A h s H E) [] (start N g) H s1:=xb S M.hd C hl r x;refine wpAny_mono (ht [] s1 (start N g) H _ I hq) (fun fl z F=>?_) fun e z F=>F;have D:∀{i:St}{H':Hp}{v:V}{u:Value},Inv (tF CX P w K mg base N a c f d A h s H E) [] i H' z->RelV v u->Q v H'->CE h P w H s Q u z:=
  fun {i H' v u} J T q=>⟨v,H',J.os,J.bare,J.base,J.hok,T,q⟩
 cases fl with
 | ret u=>obtain⟨v,i,H',J,T,q⟩:=F;exact D J T q
 | next=>obtain⟨i,H',J,q⟩:=F;exact D (v:=V.non) (u:=Value.none) J rfl q
 | brk=>obtain⟨_,_,_,q⟩:=F;exact False.elim q
 | cont=>obtain⟨_,_,_,q⟩:=F;exact False.elim q
section
variable {X:Cx}{x:Str}{p O:Pos}{e:Expr}{es:Ab}{t:TA}{id T:String}{r:List V->Hp->VK->Prop}
noncomputable def JZ (r:List V->Hp->VK->Prop) (t:TA):TE:=fun G H Q=>t G H fun v U=>r v U Q
theorem ky (c:dh X (.builtin id) r) (g:Gl X x) (m:X.mg x=none) (v:bootBuiltins x=some (.builtin id)) (n:PA X (e::es) t) (f:x≠"__name__":=by decide) (d:(x == ("__debug__":Str))=false:=by decide)
  (k:starEach (e::es) X.env=(false,eval e X.env)::starEach es X.env:=by rfl) (l:(backTo O (starEach es X.env)).any (·.1)=false:=by rfl):PE X (.Call (.Name x p) (e::es) [] O) (JZ r t):=by
 intro B s G H Q I h;refine kT (j7 I g m v ?_ f d);exact PyProof.Rows.callWith_builtin1 (cY (n O B s G H _ I h) fun Y w z=>by obtain⟨u,U,a,b,q⟩:=z;exact c B w G U u Y Q a b q) k l
theorem lf (c:dh X (.type T) r) (g:Gl X x) (m:X.mg x=none) (v:bootBuiltins x=some (.type T)) (n:PA X (e::es) t) (f:x≠"__name__":=by decide) (d:(x == ("__debug__":Str))=false:=by decide)
  (k:starEach (e::es) X.env=(false,eval e X.env)::starEach es X.env:=by rfl) (l:(backTo O (starEach es X.env)).any (·.1)=false:=by rfl):PE X (.Call (.Name x p) (e::es) [] O) (JZ r t):=by
 intro B s G H Q I h;refine kT (j7 I g m v ?_ f d);exact mY (cY (n O B s G H _ I h) fun Y w z=>by obtain⟨u,U,a,b,q⟩:=z;exact c B w G U u Y Q a b q) k l
end
end L2
namespace HT
open PySem PyProof.Rows
section
variable {prog:Program}{w:World}{A:Around}{E:VP}{s:Shared}
theorem Bu (q:IsTup s.heap t vs.toArray) (p:IsTup s.heap b N.toArray) (v:vs≠[])
  (J:N=[]->Q (.ref t) s) (h2:N≠[]->Q (.ref s.heap.objs.size) { s with heap:=s.heap.push { cls:=.type "tuple",data:=.seq (vs++N).toArray } })
  (z:vs.length+N.length≤sizeLine):wpAny (model prog w) A (binaryOp .Add (.ref t) (.ref b)) Q E s:=by
 obtain⟨⟨cls,k,data,r⟩,o,f,n,hd⟩:=id q;obtain⟨⟨a,d,data2,l⟩,h,c,m,x⟩:=id p;simp only at f hd c x;subst f hd c x;have e:vs.toArray++N.toArray=(vs++N).toArray:=by simp
 by_cases hw:N=[]
 .exact concat_meets ⟨_,o,rfl⟩ ⟨_,h,rfl⟩ noFill_tuple_add seq_tuple_add t5 ua (ud _ _)
   (tuple_addW1 t b vs.toArray N.toArray n m k d r l (by simpa using v) (by simp [hw])) ⟨o,h,J hw⟩
 .refine concat_meets ⟨_,o,rfl⟩ ⟨_,h,rfl⟩ noFill_tuple_add seq_tuple_add t5 ua (ud _ _)
   (tuple_addW2 t b vs.toArray N.toArray n m k d r l (by simpa using v) (by simpa using hw) (by rw [List.size_toArray,List.size_toArray];exact z)) ⟨o,h,?_⟩
  rw [e];exact h2 hw
noncomputable def eC (n d:Nat):Option Int->Nat
 | none=>d
 | some v=>if v < 0 then (v+(n:Int)).toNat else min v.toNat n
theorem si (n d:Nat):eC n d none=d:=rfl
theorem vD (n d k:Nat):eC n d (some (k:Int))=min k n:=by show (if (k:Int) < 0 then ((k:Int)+(n:Int)).toNat else min (k:Int).toNat n)=min k n;rw [if_neg (by lia),Int.toNat_natCast]
theorem CN (n d:Nat) (hd:d≤n) (o:Option Int):eC n d o≤n:=by
 cases o with
 | none=>exact hd
 | some v=>
  show (if v < 0 then (v+(n:Int)).toNat else min v.toNat n)≤n;by_cases h:v < 0
  .rw [if_pos h];lia
  .rw [if_neg h];exact Nat.min_le_right _ _
theorem wk (v:Int) (n d:Nat):(if v < 0 then max (v+(n:Int)) 0 else min v (n:Int))=((eC n d (some v):Nat):Int):=by
 show (if v < 0 then max (v+(n:Int)) 0 else min v (n:Int))=(((if v < 0 then (v+(n:Int)).toNat else min v.toNat n):Nat):Int);by_cases h:v < 0
 .simp only [if_pos h];lia
 .simp only [if_neg h];lia
theorem vb (I q:Option Int) (n:Nat):Builtin.Slice.sliceAdjust I q 1 (n:Int)=(((eC n 0 I:Nat):Int),((eC n n q:Nat):Int)):=by
 have J:¬((1:Int) < 0):=by lia
 unfold Builtin.Slice.sliceAdjust;simp only [J,if_false];refine Prod.ext ?_ ?_
 .cases I with
  | none=>rfl
  | some v=>exact wk v n 0
 .cases q with
  | none=>rfl
  | some v=>exact wk v n n
theorem uC (i j:Nat):Builtin.Slice.slicePlaces (i:Int) (j:Int) 1=j-i:=by
 unfold Builtin.Slice.slicePlaces;have J:(1:Int) > 0:=by lia
 simp only [J,iw,Int.ediv_one];split <;> lia
theorem nh (p:IsPart v o) (h:Q o s):wpAny (model prog w) A (Builtin.Slice.slicePartIndex v) Q E s:=by
 cases p with
 | none=>exact slicePart_none h
 | int i t=>exact slicePart_int h
theorem hZ {l:Addr}{v u:Value}{I q:Option Int}{n:Nat}{Q:Int×Int×Nat->Shared->Prop} (a:s.heap.IsSliceOf l v u .none) (p:IsPart v I) (e:IsPart u q)
  (h:Q (((eC n 0 I:Nat):Int),1,eC n n q-eC n 0 I) s):wpAny (model prog w) A (Builtin.Slice.sliceApplied (.ref l) (pure (n:Int))) Q E s:=by
 obtain⟨os,o,c,d⟩:=id a;unfold Builtin.Slice.sliceApplied Builtin.Slice.sliceFields;refine wpAny_bind (wpAny_bind (wpAny_field o d (x:=v) rfl (wpAny_bind (wpAny_field o d (x:=u) rfl (wpAny_bind (wpAny_field o d (x:=.none) rfl (wpAny_pure ?_)))))));refine wpAny_bind (slicePart_none ?_);show wpAny _ _ (if ((1:Int) == 0)=true then _ else _) _ _ s;rw [if_neg (by decide)];refine wpAny_bind (nh p (wpAny_bind (nh e (wpAny_bind (wpAny_pure ?_)))));show wpAny _ _ (match Builtin.Slice.sliceAdjust I q 1 (n:Int) with | (I,q)=>pure (I,(1:Int),Builtin.Slice.slicePlaces I q 1)) _ _ s;rw [vb I q n];show wpAny _ _ (pure (((eC n 0 I:Nat):Int),(1:Int),Builtin.Slice.slicePlaces ((eC n 0 I:Nat):Int) ((eC n n q:Nat):Int) 1)) _ _ s;rw [uC];exact wpAny_pure h
theorem yy (xs:Array Value) (i k:Nat):((List.range k).filterMap fun (m:Nat)=>xs[((i:Int)+(m:Int) * 1).toNat]?).toArray=((xs.toList.drop i).take k).toArray:=by
 have e:(fun (m:Nat)=>xs[((i:Int)+(m:Int) * 1).toNat]?)=fun m=>xs[i+m]?:=by
  funext m;have:((i:Int)+(m:Int) * 1).toNat=i+m:=by lia
  rw [this]
 rw [e];have:=pick_run xs i k
 rw [List.filterMap_map] at this;have h:((fun x=>xs[x]?) ∘ fun x=>i+x)=fun m=>xs[i+m]?:=rfl;rw [h] at this;rw [this]
theorem kE {t l:Addr}{i:Array Value}{v u:Value}{I q:Option Int}{Q:VP} (e:IsTup s.heap t i) (k:s.heap.IsSliceOf l v u .none) (p:IsPart v I) (f:IsPart u q)
  (hw:¬(eC i.size 0 I=0/\eC i.size i.size q=i.size))
  (h:Q (.ref s.heap.objs.size) { s with heap:=s.heap.push { cls:=.type "tuple",data:=.seq ((i.toList.drop (eC i.size 0 I)).take (eC i.size i.size q-eC i.size 0 I)).toArray } })
  (z:i.size≤sizeLine):wpAny (model prog w) A (getItem (.ref t) (.ref l)) Q E s:=by
 have a:sizeOk (.seq ((i.toList.drop (eC i.size 0 I)).take (eC i.size i.size q-eC i.size 0 I)).toArray):=by show ((i.toList.drop (eC i.size 0 I)).take (eC i.size i.size q-eC i.size 0 I)).toArray.size≤sizeLine;rw [List.size_toArray,io,pY,mW];lia
 have j:eC i.size i.size q≤i.size:=CN _ _ (Nat.le_refl _) q;obtain⟨os,o,c,d⟩:=id k;have T:s.TypeIs (.ref l) "slice":=⟨os,o,c⟩;unfold getItem;try with_reducible refine wpAny_holding ?_
 first | refine wpAny_bind (wpAny_pure ?_) | skip
 refine wpAny_bind (wpAny_sequenceKey e.typeIs (by decide) ?_);refine wpAny_bind (wpAny_callSpecial?_slot (name:=Str.ofString "__getitem__") e.typeIs jV
  (wpAny_call_entry jV e.typeIs entry_tuple_getitem ?_ (args_tuple_getitem _ _)))
 show wpAny _ _ (Builtin.Tuple.tupleItemsOf (.ref t) >>= _) _ _ s;refine wpAny_bind (tupleItemsOf_ e ?_);refine wpAny_bind (kn T ?_);rw [if_pos (by decide)];refine wpAny_bind (hZ k p f ?_);have n:¬((((eC i.size 0 I:Nat):Int) == 0 && (1:Int) == 1 && (eC i.size i.size q-eC i.size 0 I) == i.size)=true):=by intro x;rw [Bool.and_eq_true,Bool.and_eq_true] at x;have b:((eC i.size 0 I:Nat):Int)=0:=eq_of_beq x.1.1;have r:eC i.size i.size q-eC i.size 0 I=i.size:=eq_of_beq x.2;exact hw ⟨by lia,by lia⟩
 show wpAny _ _ (if (((eC i.size 0 I:Nat):Int) == 0 && (1:Int) == 1 && (eC i.size i.size q-eC i.size 0 I) == i.size)=true then _ else _) _ _ s;rw [if_neg n,yy];first
  | exact wpAny_bind (m:=Builtin.Tuple.tupleExact _) (wpAny_newObj_type (wpAny_pure ⟨_,rfl,wpAny_pure h⟩) a)
  | exact wpAny_bind (m:=Builtin.Tuple.tupleExact _) (wpAny_newObj_type (wpAny_bind (wpAny_pure (wpAny_pure ⟨_,rfl,wpAny_pure h⟩))) a)
  | exact wpAny_bind (wpAny_bind (m:=Builtin.Tuple.tupleExact _) (wpAny_newObj_type (wpAny_pure (wpAny_pure ⟨_,rfl,wpAny_pure h⟩)) a))
  | exact wpAny_bind (wpAny_bind (m:=Builtin.Tuple.tupleExact _) (wpAny_newObj_type (wpAny_pure ⟨_,rfl,wpAny_pure h⟩) a))
end
end HT
namespace L2
open PySem PySem.Spec PyProof.Rows
noncomputable abbrev TO:=St->Hp->(Option Int->Hp->Prop)->Prop
noncomputable def PO (X:Cx) (e:Option Expr) (t:TO):Prop:=
 ∀(B:PN) (s:Shared) (G:St) (H:Hp) (Q:Option Int->Hp->Prop),Inv X B G H s->t G H Q ->
  wpAny (model X.prog X.w) X.A (evalPart e X.env) (fun u z=>∃o H',Inv X B G H' z/\IsPart u o/\Q o H') X.xe s
noncomputable def As:TO:=fun _ H Q=>Q none H
noncomputable def Ff (t:TE):TO:=fun G H Q=>t G H fun x U=>∃i,x=.int i/\Q (some i) U
section
variable {X:Cx}{e:Expr}{te:TE}{I q:Option Expr}{tl th:TO}{O p2:Pos}
theorem AO:PO X none As:=by intro B s G H Q I h;rw [evalPart_none];exact wpAny_pure ⟨none,H,I,.none,h⟩
theorem AM (h:PE X e te):PO X (some e) (Ff te):=by
 intro B s G H Q I hw;rw [evalPart_some];refine cY (h B s G H _ I hw) fun u k z=>?_
 obtain⟨x,U,a,r,n⟩:=z;obtain⟨i,rfl,q⟩:=n;obtain⟨t,rfl⟩:=r;exact⟨some i,U,a,.int i t,q⟩
noncomputable def BF (X:Cx) (r:V->Option Int->Option Int->Hp->VK->Prop):Prop:=
 ∀(B:PN) (s:Shared) (G:St) (H:Hp) (x:V) (v h u:Value) (I q:Option Int) (l:Addr) (Q:VK),Inv X B G H s->RelV x v->s.heap.IsSliceOf l h u .none->IsPart h I->IsPart u q->r x I q H Q ->
  ∃T id,typeLookup (.type T) "__getitem__"=pure (some (.builtin id))/\s.TypeIs v T/\wpAny (model X.prog X.w) X.A (getItem v (.ref l)) (EP X B G Q) X.xe s
theorem BF.or (h:BF X r) (h':BF X N):BF X (fun x I q H Q=>r x I q H Q\/N x I q H Q):=by
 intro B s G H x v f b I q l Q a k n p u e;rcases e with e | e
 .exact h B s G H x v f b I q l Q a k n p u e
 .exact h' B s G H x v f b I q l Q a k n p u e
noncomputable def KC (r:V->Option Int->Option Int->Hp->VK->Prop) (te:TE) (tl th:TO):TE:=fun G H Q=>te G H fun x U=>tl G U fun l H2=>th G H2 fun u h=>r x l u h Q
theorem yB (o:BF X r) (i:PE X e te) (y:PO X I tl) (F:PO X q th):PE X (.Subscript e (.Slice I q none p2) O) (KC r te tl th):=by
 intro B s G H Q a h;refine Subscript_ (cY (i B s G H _ a h) fun v J z=>?_);obtain⟨x,U,t,E,A⟩:=z;refine wpAny_Slice (cY (y B J G U _ t A) fun f L ⟨l,H2,p,K,C⟩=>cY (F B L G H2 _ p C) fun c k z=>?_);obtain⟨u,m,d,P,D⟩:=z;rw [evalPart_none];refine wpAny_pure ?_;have w:Inv X B G m { k with heap:=k.heap.push { cls:=.type "slice",data:=.fields #[f,c,.none] } }:=d.kept (t':=k.toks) fun b M n=>Heap.get?_push_of_some _ n
 obtain⟨T,id,g,S,j⟩:=o B { k with heap:=k.heap.push { cls:=.type "slice",data:=.fields #[f,c,.none] } } G m x v f c l u k.heap.objs.size Q w E (Heap.IsSliceOf.new ..) K P D;show wpAny (model X.prog X.w) X.A (subscriptTail e (.Slice I q none p2) v (.ref k.heap.objs.size)) (EP X B G Q) X.xe { k with heap:=k.heap.push { cls:=.type "slice",data:=.fields #[f,c,.none] } };exact tail_any (ops:=[.ref k.heap.objs.size,v]) S g j (by with_unfolding_all rfl)
noncomputable def tH (xs:List V) (I q:Option Int):List V:=(xs.drop (HT.eC xs.length 0 I)).take (HT.eC xs.length xs.length q-HT.eC xs.length 0 I)
theorem lY (xs:List V) (I q:Option Int):(tH xs I q).length≤xs.length:=by unfold tH;rw [io,pY];lia
noncomputable def Jd (K:FG):V->Option Int->Option Int->Hp->VK->Prop:=fun x I q H Q=>∃a xs,x=.ref a/\mQ K H a xs /\
 ¬(HT.eC xs.length 0 I=0/\HT.eC xs.length xs.length q=xs.length)/\∀p,H p=none->Q (.ref p) (cm H p (.tup (tH xs I q)))
theorem CJ:BF X (Jd X.K):=by
 intro B s G H x v w g I q d Q e c k p u h;obtain⟨a,xs,rfl,f,hw,n⟩:=h;cases c;obtain⟨i,r,t,z⟩:=e.tuple f;have l:i.toArray.size=xs.length:=by rw [List.size_toArray];exact r.length.symm
 refine⟨"tuple",_,jV.lookup,t.typeIs,?_⟩;refine HT.kE t k p u (by rw [l];exact hw) ?_ (by rw [l];exact z);rw [l];refine⟨.ref s.heap.objs.size,_,e.laid (t':=s.toks) (o:=.tup (tH xs I q)) (fun b m n=>Heap.get?_push_of_some _ n) (Nat.le_refl _) ?_,rfl,n _ (e.hok.fresh (Nat.le_refl _))⟩;exact⟨aU (lY xs I q) z,_,(r.drop (HT.eC xs.length 0 I)).take (HT.eC xs.length xs.length q-HT.eC xs.length 0 I),lI.new _ _⟩
noncomputable def FD (K:FG):R2:=fun x y H Q=>∃a b xs ys,x=.ref a/\y=.ref b/\mQ K H a xs/\mQ K H b ys/\xs≠[]/\xs.length+ys.length≤sizeLine /\
 (ys=[]->Q (.ref a) H)/\(ys≠[]->∀p,H p=none->Q (.ref p) (cm H p (.tup (xs++ys))))
theorem aQ.nil_iff (r:aQ xs Y):Y=[]↔xs=[]:=by
 cases r with
 | nil=>simp
 | cons _ _=>simp
theorem AZ:ik X (binaryOp .Add) (FD X.K):=by intro B s G H x y v u Q I g j h;obtain⟨a,b,xs,ys,rfl,rfl,k,f,c,n,m,d⟩:=h;cases g;cases j;obtain⟨t,e,p,_⟩:=I.tuple k;obtain⟨i,r,p2,_⟩:=I.tuple f;refine HT.Bu p p2 (fun z=>c (e.nil_iff.mp z)) (fun z=>⟨.ref a,H,I,rfl,m (r.nil_iff.mp z)⟩) (fun z=>?_) (by rw [<- e.length,<- r.length];exact n);refine⟨.ref s.heap.objs.size,_,I.laid (t':=s.toks) (o:=.tup (xs++ys)) (fun b l q=>Heap.get?_push_of_some _ q) (Nat.le_refl _) ?_,rfl,d (fun w=>z (r.nil_iff.mpr w)) _ (I.hok.fresh (Nat.le_refl _))⟩;exact⟨by rw [cO];exact n,_,e.append r,lI.new _ _⟩
end
noncomputable def w_ (n:Nat) (i:Int):Option Nat:=if 0≤i then (if i < n then some i.toNat else none) else if -(n:Int)≤i then some (i+n).toNat else none
variable {α:Type}
noncomputable def atI (xs:List α) (i:Int):Option α:=(w_ xs.length i).bind fun j=>xs[j]?
variable {n:Nat}
theorem vW {i:Int} (h:w_ n i=some N):seqIndex? i n=some N/\N < n/\-(n:Int)≤i/\i < n:=by
 unfold w_ at h;by_cases x:0≤i
 .rw [if_pos x] at h;by_cases J:i < n
  .rw [if_pos J] at h;have e:i.toNat=N:=Option.some.inj h;exact⟨by rw [seqIndex_of x J,e],by lia,by lia,J⟩
  .rw [if_neg J] at h;cases h
 .rw [if_neg x] at h;by_cases J:-(n:Int)≤i
  .rw [if_pos J] at h;have e:(i+n).toNat=N:=Option.some.inj h;exact⟨by rw [seqIndex_neg (by lia) J,e],by lia,J,by lia⟩
  .rw [if_neg J] at h;cases h
theorem rQ {i:Int} (h:atI xs i=some v):∃j,seqIndex? i xs.length=some j/\xs[j]? = some v/\j < xs.length/\-(xs.length:Int)≤i/\i < xs.length:=by
 unfold atI at h;cases e:w_ xs.length i with
 | none=>rw [e] at h;cases h
 | some j=>rw [e] at h;obtain⟨J,h2,x,a⟩:=vW e;exact⟨j,J,h,h2,x,a⟩
theorem atI_last (xs:List α) (v:α):atI (xs++[v]) (-1)=some v:=by
 have h:(xs++[v]).length=xs.length+1:=by simp
 have e:w_ (xs++[v]).length (-1)=some xs.length:=by unfold w_;rw [h,if_neg (by decide),if_pos (by lia)];congr 1;lia
 unfold atI;rw [e];show (xs++[v])[xs.length]? = some v;simp
noncomputable def kN (b:Expr):Prop:=∀o i,subscripted b false o i=operate [o,i] (getItem o i)
noncomputable def z5 (X:Cx) (r:R2):Prop:=
 ∀(value l:Expr) (B:PN) (s:Shared) (G:St) (H:Hp) (x y:V) (v u:Value) (Q:VK),Inv X B G H s->RelV x v->RelV y u->r x y H Q ->
  subscripted l false v u=operate [v,u] (getItem v u)->wpAny (model X.prog X.w) X.A (subscriptTail value l v u) (EP X B G Q) X.xe s
noncomputable def Ln (X:Cx) (id:String) (r:V->List V->Hp->VK->Prop):Prop:=
 ∀(B:PN) (s:Shared) (G:St) (H:Hp) (x:V) (xs:List V) (v:Value) (Y:LV) (Q:VK),Inv X B G H s->RelV x v->aQ xs Y->r x xs H Q ->
  wpAny (model X.prog X.w) X.A (call (.builtin id) (v::Y)) (EP X B G Q) X.xe s
section
variable {X:Cx}{a b:Expr}{ta tb:TE}{O:Pos}
theorem z5.or (h:z5 X r) (h':z5 X N):z5 X (fun x y H Q=>r x y H Q\/N x y H Q):=by
 intro value l B s G H x y v u Q I e n q a;rcases q with q | q
 .exact h value l B s G H x y v u Q I e n q a
 .exact h' value l B s G H x y v u Q I e n q a
theorem yE (f:z5 X r) (n:PE X a ta) (k:PE X b tb) (c:kN b):PE X (.Subscript a b O) (CB r ta tb):=by intro B s G H Q I h;exact Subscript_ (D' n k I h fun v u p x y H2 e m t q=>f a b B p G H2 x y v u Q e m t q (c _ _))
noncomputable def Ji (K:FG):R2:=fun x y H Q=>∃p xs i v,x=.ref p/\y=.int i/\gY K H p xs/\atI xs i=some v/\Q v H
noncomputable def Jg (K:FG):R2:=fun x y H Q=>∃p xs i v,x=.ref p/\y=.int i/\mQ K H p xs/\atI xs i=some v/\Q v H
noncomputable def Jh:R2:=fun x y H Q=>∃z i c,x=.str z/\y=.int i/\z.length≤sizeLine/\atI z.cps.toList i=some c/\Q (.str ⟨#[c]⟩) H
theorem qI:z5 X (Ji X.K):=by
 intro value c B s G H x y v u Q I P A h d;obtain⟨p,xs,i,a,rfl,rfl,K,S,q⟩:=h;cases P;obtain⟨t,rfl⟩:=A;obtain⟨n,r,l,E⟩:=I.list K;obtain⟨j,J,h2,C,g,o⟩:=rQ S;obtain⟨w,b,k⟩:=r.get h2;have F:=r.length;have D:=jf;have f:EP X B G Q w s:=⟨a,H,I,k,q⟩;by_cases m:0≤i
 .have e:i.toNat=j:=by
   rw [seqIndex_of m o] at J;exact Option.some.inj J
  exact item_listR l.isList m (by lia) (by rw [e];simpa using b) f d
 .have e:(i+(n.toArray.size:Int)).toNat=j:=by
   rw [seqIndex_neg (by lia) g] at J;rw [List.size_toArray,<- F];exact Option.some.inj J
  exact subscriptTail_builtinR (x:=w) l.isList.typeIs slot_list_getitem.lookup
   (wpAny_getItem_list_neg (Q:=fun r z=>r=w/\EP X B G Q r z) l.isList (by lia) (by rw [List.size_toArray] <;> lia) (by lia) (by rw [e];simpa using b) ⟨rfl,f⟩) d
theorem DO:z5 X (Jg X.K):=by
 intro value l B s G H x y v u Q I o S h d;obtain⟨p,xs,i,a,rfl,rfl,m,b,q⟩:=h;cases o;obtain⟨t,rfl⟩:=S;obtain⟨g,r,n,C⟩:=I.tuple m;obtain⟨j,J,h2,F,K,P⟩:=rQ b;obtain⟨w,k,e⟩:=r.get h2;have c:=r.length;have A:=jf;have f:EP X B G Q w s:=⟨a,H,I,e,q⟩;exact subscriptTail_builtinR (x:=w) n.typeIs jV.lookup
  (getItem_tuple (j:=j) (Q:=fun r z=>r=w/\EP X B G Q r z) n (by lia) (by lia) (by rw [List.size_toArray,<- c];exact J) (by simpa using k) ⟨rfl,f⟩) d
theorem DP:z5 X Jh:=by
 intro value l B s G H x y v u Q I r p h m;obtain⟨z,i,c,rfl,rfl,g,f,q⟩:=h;obtain⟨t,rfl⟩:=r;obtain⟨o,rfl⟩:=p;obtain⟨j,J,h2,d,n,k⟩:=rQ f;have b:z.cps.toList.length=z.length:=by simp [Str.length]
 rw [b] at J n k;have w:=jf;exact tail_any (typeIs_str s z t) slot_str_getitem.lookup (getItem_str (c:=c) (by have e:decide (i < -(2 ^ 63:Int))=false:=bB (by lia);have a:decide (i ≥ 2 ^ 63)=false:=bB (by lia);rw [e,a,Bool.or_false]) (by rw [J];simpa using h2) ⟨.str ⟨#[c]⟩,H,I.tok _,⟨_,rfl⟩,q⟩) m
theorem uE (i:LV) (n j:Nat) (u:Value):Obj.mapSeq (·.setIfInBounds j u) { cls:=.type "list",data:=.seq i.toArray n }={ cls:=.type "list",data:=.seq (i.set j u).toArray n }:=by simp [Obj.mapSeq]
theorem Inv.lst (I:Inv X B G H s) (h:H p=some (.lst xs)) :
  ∃(i:LV) (n:Nat),aQ xs i/\s.heap.get? p=some { cls:=.type "list",data:=.seq i.toArray n }/\xs.length≤sizeLine:=by
 obtain⟨z,i,n,r,e⟩:=I.hok p _ h;exact⟨i,n,r,e,z⟩
theorem Inv.lstUpd {i:LV} (I:Inv X B G H s) (h:H p=some (.lst xs))
  (o:s.heap.get? p=some { cls:=.type "list",data:=.seq i.toArray n }) (a:f { cls:=.type "list",data:=.seq i.toArray n }={ cls:=.type "list",data:=.seq N.toArray n' }) (r:aQ ys N) (z:ys.length≤sizeLine) (t:Nat) :
  Inv X B G (cm H p (.lst ys)) { s with heap:=s.heap.update p f,toks:=t }:=by
 have e:(s.heap.update p f).get? p=some { cls:=.type "list",data:=.seq N.toArray n' }:=by rw [p6 f o (by rw [a] <;> rfl),a]
 refine I.write (x:=p) (e:=p) (by rw [h];trivial) (.inl rfl) (fun b u k q=>(Heap.get?_update_other _ _ (Ne.symm k)).trans q) ⟨_,e⟩ ?_;exact⟨z,N,n',r,e⟩
noncomputable def FC:V->V->V->Hp->(Hp->Prop)->Prop:=fun o i v H Q=>∃p xs k j,o=.ref p/\i=.int k/\H p=some (.lst xs)/\w_ xs.length k=some j/\Q (cm H p (.lst (xs.set j v)))
theorem ye:Ha X FC:=by
 intro B s G H o i v P K u Q I y g S h;obtain⟨p,xs,k,j,rfl,rfl,d,w,q⟩:=h;cases y;obtain⟨t,rfl⟩:=g;obtain⟨x,n,r,e,z⟩:=I.lst d;obtain⟨J,h2,c,m⟩:=vW w;have l:=r.length;have F:=jf;have f:Inv X B G (cm H p (.lst (xs.set j v))) { s with heap:=s.heap.update p (Obj.mapSeq (·.setIfInBounds j u)) }:=
  I.lstUpd d e (uE x n j u) (r.set S j) (by rw [fq];exact z) s.toks
 by_cases b:0≤k
 .have a:k.toNat=j:=by
   rw [seqIndex_of b m] at J;exact Option.some.inj J
  exact PySem.W.ki_setAt e b (by lia) (by rw [List.size_toArray,<- l];exact m) (by rw [a];exact⟨_,f,q⟩)
 .have a:(k+(x.toArray.size:Int)).toNat=j:=by
   rw [seqIndex_neg (by lia) c] at J;rw [List.size_toArray,<- l];exact Option.some.inj J
  exact PySem.W.ki_setBack e (by lia) (by rw [List.size_toArray,<- l];exact c) (by lia) (by rw [a];exact⟨_,f,q⟩)
theorem qm (I q:Option Int) (n:Nat):(sliceBounds I q none n).1=((HT.eC n 0 I:Nat):Int)/\(sliceBounds I q none n).2.1=((HT.eC n n q:Nat):Int)/\(sliceBounds I q none n).2.2=1:=by
 refine⟨?_,?_,rfl⟩
 .cases I with
  | none=>simp [sliceBounds,HT.eC]
  | some i=>
   simp only [sliceBounds,HT.eC,Option.getD_none,show (1:Int) > 0 by decide,iw];by_cases h:i < 0
   .simp only [h,iw] <;> lia
   .simp only [h,if_false] <;> lia
 .cases q with
  | none=>simp [sliceBounds,HT.eC]
  | some i=>
   simp only [sliceBounds,HT.eC,Option.getD_none,show (1:Int) > 0 by decide,iw];by_cases h:i < 0
   .simp only [h,iw] <;> lia
   .simp only [h,if_false] <;> lia
theorem og (i:LV) (I q:Option Int):slicePick i.toArray I q none=((i.drop (HT.eC i.length 0 I)).take (HT.eC i.length i.length q-HT.eC i.length 0 I)).toArray:=by obtain⟨J,h2,h⟩:=qm I q i.toArray.size;unfold slicePick;rw [J,h2,h];simp only [sliceRange_one,pick_run,List.size_toArray] <;> rfl
noncomputable def Je (K:FG):V->Option Int->Option Int->Hp->VK->Prop:=fun x I q H Q=>∃a xs,x=.ref a/\gY K H a xs/\∀p,H p=none->Q (.ref p) (cm H p (.lst (tH xs I q)))
theorem Aw:BF X (Je X.K):=by intro B s G H x v w g I q d Q e c k p u h;obtain⟨a,xs,rfl,f,n⟩:=h;cases c;obtain⟨i,r,t,z⟩:=e.list f;have l:=r.length;refine⟨"list",_,slot_list_getitem.lookup,t.isList.typeIs,?_⟩;refine wpAny_getItem_list_slice t.isList k p u .none (by simp) ?_ (by rw [List.size_toArray] <;> lia);rw [og,<- l];refine⟨.ref s.heap.objs.size,_,e.laid (t':=s.toks) (o:=.lst (tH xs I q)) (fun b m n=>Heap.get?_push_of_some _ n) (Nat.le_refl _) ?_,rfl,n _ (e.hok.fresh (Nat.le_refl _))⟩;exact⟨aU (lY xs I q) z,_,0,(r.drop (HT.eC xs.length 0 I)).take (HT.eC xs.length xs.length q-HT.eC xs.length 0 I),Heap.get?_push_size _ rfl⟩
theorem rM:dh X (.builtin "len") (fun xs H Q=>∃p ys,xs=[.ref p]/\(gY X.K H p ys\/mQ X.K H p ys)/\Q (.int ys.length) H):=by
 intro B s G H xs Y Q I r h;obtain⟨p,ys,rfl,x,q⟩:=h;obtain⟨u,rfl,n⟩:=vals1 r;cases n;have k:=jf;rcases x with x | x
 .obtain⟨i,e,a,z⟩:=I.list x;have l:=e.length;exact Calls.call_len_list a.isList (by simp only [List.size_toArray] <;> lia) ⟨.int ys.length,H,I.tok _,⟨s.toks+1,by rw [List.size_toArray,l]⟩,q⟩
 .obtain⟨i,e,a,z⟩:=I.tuple x;have l:=e.length;exact len_tuple a (by simp only [List.size_toArray] <;> lia) ⟨.int ys.length,H,I.tok _,⟨s.toks+1,by rw [List.size_toArray,l]⟩,q⟩
theorem rL:dh X (.builtin "len") (fun xs H Q=>∃z,xs=[.str z]/\z.length≤sizeLine/\Q (.int z.length) H):=by intro B s G H xs Y Q I r h;obtain⟨z,rfl,x,q⟩:=h;obtain⟨u,rfl,t,rfl⟩:=vals1 r;have n:=jf;exact len_str (by lia) ⟨.int z.length,H,I.tok _,⟨_,rfl⟩,q⟩
theorem dh.or (h:dh X f r) (h':dh X f N):dh X f (fun xs H Q=>r xs H Q\/N xs H Q):=by
 intro B s G H xs Y Q I x q;rcases q with q | q
 .exact h B s G H xs Y Q I x q
 .exact h' B s G H xs Y Q I x q
theorem kI:dh X (.type "list") (fun xs H Q=>∃p ys,xs=[.ref p]/\(gY X.K H p ys\/mQ X.K H p ys)/\∀l,H l=none->Q (.ref l) (cm H l (.lst ys))):=by
 intro B s G H xs Y Q I r h;obtain⟨p,ys,rfl,k,q⟩:=h;obtain⟨u,rfl,w⟩:=vals1 r;cases w;have f:∀(i:LV),aQ ys i->ys.length≤sizeLine->∀(h':Heap) (c:Nat),(∀b o',s.heap.get? b=some o'->h'.get? b=some o') ->
   h'.get? s.heap.objs.size=some { cls:=.type "list",dict:=none,data:=.seq i.toArray c,slots:=#[] }->EP X B G Q (.ref s.heap.objs.size) { s with heap:=h' }:=fun i x z h' c m e=>
  ⟨.ref s.heap.objs.size,_,I.laid (t':=s.toks) m (Nat.le_refl _) (show ci X.prog X.w _ h' _ (.lst ys) from ⟨z,i,c,x,e⟩),rfl,q _ (I.hok.fresh (Nat.le_refl _))⟩
 rcases k with k | k
 .obtain⟨i,x,d,z⟩:=I.list k;have a:=x.length;obtain⟨o,v,t,n,hd⟩:=d.isList;exact call_list_seq p (.inl rfl) v t hd (fun h' c m e=>f i x z h' c m e) (by simp only [List.size_toArray] <;> lia)
 .obtain⟨i,x,d,z⟩:=I.tuple k;have a:=x.length;obtain⟨o,v,t,n,hd⟩:=d;exact call_list_seq p (.inr rfl) v t hd (fun h' c m e=>f i x z h' c m e) (by simp only [List.size_toArray] <;> lia)
theorem jN:dh X (.type "tuple") (fun xs H Q=>∃p ys,xs=[.ref p]/\((gY X.K H p ys/\∀l,H l=none->Q (.ref l) (cm H l (.tup ys)))\/(mQ X.K H p ys/\Q (.ref p) H))):=by
 intro B s G H xs Y Q I r h;obtain⟨p,ys,rfl,h⟩:=h;obtain⟨u,rfl,t⟩:=vals1 r;cases t;rcases h with ⟨x,q⟩ | ⟨x,q⟩
 .obtain⟨i,n,a,z⟩:=I.list x;have f:=n.length;refine call_tuple_list a.isList (fun h' m=>?_) (by simp only [List.size_toArray] <;> lia);have k:Inv X B G H { s with heap:=h' }:=I.kept (t':=s.toks) m;have c:Inv X B G (cm H h'.objs.size (.tup ys)) { s with heap:=h'.push { cls:=.type "tuple",data:=.seq i.toArray } }:=
   k.laid (t':=s.toks) (fun b o e=>Heap.get?_push_of_some _ e) (Nat.le_refl _) (show ci X.prog X.w _ _ _ (.tup ys) from ⟨z,i,n,lI.new _ _⟩)
  exact⟨.ref h'.objs.size,_,c,rfl,q _ (k.hok.fresh (Nat.le_refl _))⟩
 .obtain⟨i,n,a,z⟩:=I.tuple x;exact call_tuple_same a ⟨.ref p,H,I,rfl,q⟩
noncomputable def JY (K:FG) (T:String) (x:V) (H:Hp):Prop:=match x with
 | .str _=>T="str"
 | .int _=>T="int"
 | .ref p=>(T="list"/\∃xs,gY K H p xs)\/(T="tuple"/\∃o,K.lookup p=some o/\o.cls=.type "tuple"/\o.dict=none) \/
   (T="dict"/\((∃j,H p=some (.dK j))\/∃j,H p=some (.dT j)))\/(T="set"/\∃S n,H p=some (.set S n))
 | _=>False
theorem Cv (I:Inv X B G H s) (r:RelV x v) (ty:JY X.K T x H) :
  s.TypeIs v T/\∀a,v=.ref a->∃b,s.heap.get? a=some b/\b.dict=none:=by
 cases x with
 | str z=>obtain⟨t,rfl⟩:=r;cases (show T="str" from ty);exact⟨typeIs_str s z t,fun _ e=>nomatch e⟩
 | int i=>obtain⟨t,rfl⟩:=r;cases (show T="int" from ty);exact⟨typeIs_int s i t,fun _ e=>nomatch e⟩
 | ref p=>
  cases r;rcases ty with ⟨rfl,xs,q⟩ | ⟨rfl,o,h,f,hd⟩ | ⟨rfl,h⟩ | ⟨rfl,S,n,h⟩
  .obtain⟨m,_,l,_⟩:=I.list q;refine⟨l.isList.typeIs,fun a e=>?_⟩;cases e;obtain⟨o,n,e,c,hd,_⟩:=l;exact⟨o,e,hd⟩
  .refine⟨⟨o,I.kIn p o h,f⟩,fun a e=>?_⟩;cases e;exact⟨o,I.kIn _ o h,hd⟩
  .have z:∃o,s.heap.get? p=some o/\o.ExactDict:=by
    rcases h with ⟨j,h⟩ | ⟨j,h⟩
    .obtain⟨_,_,_,_,o,_,_,e,ex,_⟩:=I.hok p _ h;exact⟨o,e,ex⟩
    .obtain⟨_,_,_,_,o,_,_,e,ex,_⟩:=I.hok p _ h;exact⟨o,e,ex⟩
   obtain⟨o,e,ex⟩:=z;refine⟨⟨o,e,ex.1⟩,fun a k=>?_⟩;cases k;exact⟨o,e,ex.2.1⟩
  .obtain⟨o,_,_,_,e,ex,_⟩:=I.hok p _ h;refine⟨⟨o,e,ex.1⟩,fun a k=>?_⟩;cases k;exact⟨o,e,ex.2.1⟩
 | _=>exact False.elim ty
noncomputable def KI (K:FG) (T:String) (r:V->List V->Hp->VK->Prop) (to:TE) (t:TA):TE:=fun G H Q=>to G H fun x U=>JY K T x U/\t G U fun xs H2=>r x xs H2 Q
variable {o e:Expr}{es:Ab}{to:TE}{t:TA}{name:Str}{apos cpos:Pos}{T id:String}{r:V->List V->Hp->VK->Prop}
theorem BR (w:PlainAttrs T) (slot:Slot T name id) (y:typeOf (.builtin id)=pure (.type "method_descriptor")) (m:Ln X id r) (q:PE X o to) (c:PA X (e::es) t)
  (b:attributeBase o name X.env (eval o X.env)=eval o X.env:=by rfl)
  (f:((backTo cpos (starEach (e::es) X.env)).all (fun x=>!x.1) && (backToKw cpos (keywordEach [] X.env)).all (fun x=>x.1.isSome)
   && decide ((e::es).length+([]:List Keyword).length+(if ([]:List Keyword).isEmpty then 0 else 1) < 30))=true:=by rfl)
  (l:(apos.endLine == cpos.line)=true:=by rfl) (d:starEach (e::es) X.env=(false,eval e X.env)::starEach es X.env:=by rfl) (p:(backTo cpos (starEach es X.env)).any (·.1)=false:=by rfl) :
  PE X (.Call (.Attribute o name apos) (e::es) [] cpos) (KI X.K T r to t):=by
 intro B s G H Q I h;refine wpAny_Call_method_late b f l rfl (cY (q B s G H _ I h) fun v j z=>?_);obtain⟨x,U,a,n,ty,u⟩:=z;obtain⟨J,h2⟩:=Cv a n ty;refine⟨T,id,w,slot,y,J,h2,?_⟩;have A:=c cpos B j G U _ a u;rw [d] at A ⊢;refine Calls.callWith_builtin (by show (false || (backTo cpos (starEach es X.env)).any (·.1))=false;rw [p] <;> rfl) (Calls.evalArgs_plain ?_);exact cY A fun Y S z=>by obtain⟨F,H2,k,i,g⟩:=z;exact m B S G H2 x F v Y Q k n i g
end
noncomputable def Kn (X:Cx) (id:String) (r:V->List V->Hp->VK->Prop):Prop:=
 ∀(B:PN) (s:Shared) (G:St) (H:Hp) (x:V) (xs:List V) (v:Value) (Y:LV) (Q:VK),Inv X B G H s->RelV x v->aQ xs Y->r x xs H Q ->
  wpAny (model X.prog X.w) X.A (call (.builtin id) (v::Y)) (EP X B G Q) X.xe s
theorem aQ.one:∀{x:V}{Y:LV},aQ [x] Y->∃u,Y=[u]/\RelV x u
 | _,_,.cons r .nil=>⟨_,rfl,r⟩
theorem aQ.rep (h:aQ xs Y):∀k:Nat,aQ (List.replicate k xs).flatten (List.replicate k Y).flatten
 | 0=>.nil
 | k+1=>by rw [dE,dE,hR,hR];exact aQ.append h (aQ.rep h k)
theorem foldl_rep (i:LV):∀(k:Nat) (a:LV),
  List.foldl (fun x s=>x++s) a.toArray (List.replicate k i.toArray)=(a++(List.replicate k i).flatten).toArray
 | 0,a=>by simp
 | k+1,a=>by
  have e:a.toArray++i.toArray=(a++i).toArray:=by simp
  have h:(a++i)++(List.replicate k i).flatten=a++(List.replicate (k+1) i).flatten:=by rw [dE,hR,List.append_assoc]
  rw [<- h,<- foldl_rep i k (a++i),<- e,dE,gF]
section
variable {X:Cx}{B:PN}{G:St}{H:Hp}{s:Shared}{l b:Addr}{xs ys zs:List V}
theorem Inv.lset {i:LV}{t:Nat} (I:Inv X B G H s) (h:H l=some (.lst xs))
  (e:s.heap.get? l=some { cls:=.type "list",data:=.seq i.toArray n }) (a:f i.toArray=N.toArray) (v:aQ ys N) (z:ys.length≤sizeLine) :
  Inv X B G (cm H l (.lst ys)) { s with heap:=s.heap.update l (Obj.mapSeq f),toks:=t }:=by
 have q:=PySem.IsL.update e f;rw [a] at q;refine I.write (x:=l) (e:=l) (by rw [h];exact trivial) (.inl rfl) (fun c u b k=>(Heap.get?_update_other s.heap (Obj.mapSeq f) (Ne.symm b)).trans k) ⟨_,q⟩ ?_;exact⟨z,N,_,v,q⟩
theorem Inv.lnew {t:Nat} (I:Inv X B G H s) (h:aQ ys N) (z:ys.length≤sizeLine) :
  Inv X B G (cm H s.heap.objs.size (.lst ys)) { s with heap:=s.heap.push { cls:=.type "list",data:=.seq N.toArray },toks:=t }:=
 I.laid (fun _ _ q=>Heap.get?_push_of_some _ q) (Nat.le_refl _) ⟨z,N,0,h,Heap.get?_push_size _ rfl⟩
theorem Inv.fresh (I:Inv X B G H s):H s.heap.objs.size=none:=I.hok.fresh (Nat.le_refl _)
theorem Inv.lstM (I:Inv X B G H s) (h:H l=some (.lst xs)):xs.length≤sizeLine/\∃(i:LV) (n:Nat),aQ xs i/\xs.length=i.length/\s.heap.get? l=some { cls:=.type "list",data:=.seq i.toArray n }:=by obtain⟨z,i,n,r,e⟩:=I.hok l _ h;exact⟨z,i,n,r,r.length,e⟩
theorem su (h:n≤sizeLine):Builtin.List.listTooLong n=false:=by unfold Builtin.List.listTooLong;exact bB (by lia)
end
section
variable {X:Cx}
noncomputable def AF:V->List V->Hp->VK->Prop:=fun x v H Q=>∃l xs y,x=.ref l/\v=[y]/\H l=some (.lst xs)/\xs.length < sizeLine/\Q .non (cm H l (.lst (xs++[y])))
theorem o4:Kn X "list.append" AF:=by intro B s G H x t v Y Q I b f h;obtain⟨l,xs,y,rfl,rfl,a,m,q⟩:=h;cases b;obtain⟨u,rfl,k⟩:=f.one;obtain⟨z,i,n,r,c,e⟩:=I.lstM a;refine call_meets F.slot_list_append ⟨_,e,rfl⟩ F.entry_list_append (F.args_list_append_2 _ _) (PySem.list_append l i.toArray n u (by rw [List.size_toArray];lia)) ⟨e,?_⟩;refine⟨.non,_,I.lset (N:=i++[u]) a e (by simp) (r.append (.cons k .nil)) ?_,rfl,q⟩;rw [cO,List.length_singleton];lia
noncomputable def AE:V->List V->Hp->VK->Prop:=fun x v H Q=>∃l b xs zs,x=.ref l/\v=[.ref b]/\H l=some (.lst xs)/\H b=some (.lst zs)/\xs.length+zs.length≤sizeLine/\Q .non (cm H l (.lst (xs++zs)))
theorem wY:Kn X "list.extend" AE:=by
 intro B s G H x K v Y Q I j g h;obtain⟨l,b,xs,zs,rfl,rfl,k,c,S,q⟩:=h;cases j;obtain⟨u,rfl,w⟩:=g.one;cases w;obtain⟨z,t,n,r,y,e⟩:=I.lstM k;obtain⟨P,i,p,d,m,f⟩:=I.lstM c;have a:t.toArray.size+i.toArray.size≤sizeLine:=by rw [List.size_toArray,List.size_toArray];lia
 have o:¬(!t.toArray.isEmpty && Builtin.List.listTooLong (t.toArray.size+i.toArray.size))=true:=by rw [su a,Bool.and_false];exact bZ
 refine call_meets F.slot_list_extend ⟨_,e,rfl⟩ F.entry_list_extend (F.args_list_extend_2 _ _)
  (AutoSeq1.list_extend_list_list_0 l t.toArray n b i.toArray p o (by rw [List.size_toArray];lia) (by lia)) ⟨e,f,?_⟩
 refine⟨.non,_,I.lset (N:=t++i) k e (by simp) (r.append d) ?_,rfl,q⟩;rw [cO];lia
noncomputable def Jj:R2:=fun x y H Q=>∃l b xs zs,x=.ref l/\y=.ref b/\H l=some (.lst xs)/\H b=some (.lst zs)/\xs.length+zs.length≤sizeLine/\∀p,H p=none->Q (.ref p) (cm H p (.lst (xs++zs)))
theorem Dh:ik X (binaryOp .Add) Jj:=by
 intro B s G H x y v u Q I d w h;obtain⟨l,b,xs,zs,rfl,rfl,c,f,j,q⟩:=h;cases d;cases w;obtain⟨z,t,n,r,g,e⟩:=I.lstM c;obtain⟨S,i,o,p,m,a⟩:=I.lstM f;refine PySem.P.add_list e a ?_ (by rw [List.size_toArray,List.size_toArray];lia);have k:t.toArray++i.toArray=(t++i).toArray:=by simp
 rw [k];exact⟨.ref _,_,I.lnew (t:=s.toks) (r.append p) (by rw [cO];lia),rfl,q _ I.fresh⟩
noncomputable def Jf:R2:=fun x y H Q=>∃l k xs,x=.ref l/\y=.int k/\H l=some (.lst xs)/\-(2 ^ 63)≤k/\k < 2 ^ 63/\xs.length * k.toNat≤sizeLine /\
 ∀p,H p=none->Q (.ref p) (cm H p (.lst (List.replicate k.toNat xs).flatten))
theorem A8 (xs:List α) (k:Nat):(List.replicate k xs).flatten.length=k * xs.length:=by
 induction k with
 | zero=>simp
 | succ k i=>rw [dE,hR,cO,i,Nat.succ_mul,Nat.add_comm]
theorem Dc:ik X (binaryOp .Mult) Jf:=by
 intro B s G H x y v u Q I A C h;obtain⟨l,k,xs,rfl,rfl,K,J,h2,j,q⟩:=h;cases A;obtain⟨t,rfl⟩:=C;obtain⟨f,i,n,r,P,e⟩:=I.lstM K;have p:i.toArray.size * k.toNat≤sizeLine:=by rw [List.size_toArray,<- P];exact j
 have c:¬i.toArray.size * k.toNat > (2 ^ 63-1) / 8:=by
  have:(sizeLine:Nat)≤(2 ^ 63-1) / 8:=by decide
  lia
 have b:¬(!Builtin.List.listFitsIndex k)=true:=by rw [fitsIndex_both J h2];exact bZ
 have o:¬Builtin.List.listTooLong (i.toArray.size * k.toNat)=true:=by rw [su p];exact bZ
 have w:List.foldl (fun d g=>d++g) #[] (List.replicate (if i.toArray.isEmpty=true then 0 else k.toNat) i.toArray)=(List.replicate k.toNat i).flatten.toArray:=by
  have S:∀m:Nat,List.foldl (fun d g=>d++g) #[] (List.replicate m i.toArray)=(List.replicate m i).flatten.toArray:=fun m=>by have:=foldl_rep i m [];rw [fX] at this;exact this
  rw [S];cases i with
  | nil=>simp
  | cons a D=>rw [if_neg (by simp)]
 refine wpAny_binaryOp_repeat_ref (T:="list") (U:="int") (by decide) ⟨_,e,rfl⟩ (fun z=>typeIs_int z k t) noFill_list_mul F.fills_int_mul F.slot_int_rmul repeat_list F.slot_int_index.lookup
  (call_meets F.slot_int_rmul (typeIs_int s k t) F.entry_int_rmul (F.args_int_rmul_2 _ _) (int___rmul___int_list k t l i.toArray n)
   ⟨e,rfl,⟨_,e,rfl⟩,call_meets F.slot_list_mul ⟨_,e,rfl⟩ F.entry_list_mul (F.args_list_mul_2 _ _) (AutoListH.list___mul___list_int_3 l i.toArray n k t b c o) ⟨e,?_⟩⟩)
 rw [w];exact⟨.ref _,_,I.lnew (t:=s.toks) (r.rep k.toNat) (by rw [A8,mD];exact j),rfl,q _ I.fresh⟩
end
section
variable {κ:Type} [DecidableEq κ]
noncomputable def fQ (j:List (κ×V)) (k:κ):Option V:=(j.find? fun v=>decide (v.1=k)).map (·.2)
noncomputable def putK (j:List (κ×V)) (k:κ) (v:V):List (κ×V):=
 if (j.any fun h=>decide (h.1=k))=true then j.map (fun h=>if h.1=k then (h.1,v) else h) else j++[(k,v)]
noncomputable def Ki (j:List (κ×V)) (k:κ):List (κ×V):=j.filter fun v=>decide (v.1≠k)
theorem gG {p:κ×V}{r:List (κ×V)}{k:κ} (e:p.1=k):fQ (p::r) k=some p.2:=by simp [fQ,i8,e]
theorem fP {p:κ×V}{r:List (κ×V)}{k:κ} (e:¬p.1=k):fQ (p::r) k=fQ r k:=by simp [fQ,i8,e]
theorem r_ (k:κ):∀j:List (κ×V),(j.any fun v=>decide (v.1=k))=(fQ j k).isSome
 | []=>rfl
 | p::r=>by
  rw [gE];by_cases e:p.1=k
  .simp only [gG e,im e,Bool.true_or,Option.isSome_some]
  .rw [fP e,bB e,Bool.false_or];exact r_ k r
theorem jg (j:List (κ×V)) (k:κ) (v:V):(putK j k v).length≤j.length+1:=by
 unfold putK;split
 .rw [bP];lia
 .rw [cO,bx,List.length_nil];lia
theorem i3.isSome_eq (r:i3 o u):o.isSome=u.isSome:=by
 cases o with
 | none=>cases u with
  | none=>rfl
  | some _=>exact (show False from r).elim
 | some _=>cases u with
  | none=>exact (show False from r).elim
  | some _=>rfl
theorem i3.getD (r:i3 o u) (h:RelV d N):RelV (o.getD d) (u.getD N):=by
 cases o with
 | none=>cases u with
  | none=>exact h
  | some _=>exact (show False from r).elim
 | some _=>cases u with
  | none=>exact (show False from r).elim
  | some _=>exact r
theorem KV.val {j:List (κ×V)}{v:List (κ×Value)} (r:KV j v) (k:κ):i3 (fQ j k) (valueAt v k):=by
 unfold KV at r;induction r with
 | nil=>exact True.intro
 | @cons p q ps qs h t i=>
  obtain⟨J,h2⟩:=h;by_cases e:p.1=k
  .have x:q.1=k:=J.symm.trans e;have b:valueAt (q::qs) k=some q.2:=by simp [valueAt,i8,x]
   rw [gG e,b];exact h2
  .have x:¬q.1=k:=fun z=>e (J.trans z);have b:valueAt (q::qs) k=valueAt qs k:=by simp [valueAt,i8,x]
   rw [fP e,b];exact i
theorem KV.any (r:KV j N) (k:κ):(j.any fun v=>decide (v.1=k))=N.any fun v=>decide (v.1=k):=by
 unfold KV at r;induction r with
 | nil=>rfl
 | cons h t i=>rw [gE,gE,i,h.1]
theorem KV.repl (r:KV j N) (k:κ) (x:RelV y u) :
  KV (j.map fun v=>if v.1=k then (v.1,y) else v) (N.map fun v=>if v.1=k then (v.1,u) else v):=by
 unfold KV at r ⊢;induction r with
 | nil=>exact .nil
 | @cons p q ps qs h t i=>
  rw [List.map_cons,List.map_cons];refine .cons ?_ i;obtain⟨J,h2⟩:=h;by_cases e:p.1=k
  .rw [if_pos e,if_pos (J.symm.trans e)];exact⟨J,x⟩
  .rw [if_neg e,if_neg (fun z=>e (J.trans z))];exact⟨J,h2⟩
theorem KV.put (r:KV j N) (k:κ) (h:RelV y u):KV (putK j k y) (stored N k u):=by
 unfold putK stored;rw [r.any k];by_cases e:(N.any fun v=>decide (v.1=k))=true
 .rw [if_pos e,if_pos e];exact r.repl k h
 .rw [if_neg e,if_neg e];exact Paired.snoc r ⟨rfl,h⟩
theorem KV.length (r:KV j N):j.length=N.length:=Paired.length r
end
variable {w:World}{u:Value}
theorem lO (r:RelV (kV k) u):(bU P w).is k u=true:=by
 cases k with
 | inl i=>obtain⟨t,e⟩:=(show ∃t,u=Value.int i t from r);subst e;exact sF P w i t
 | inr x=>obtain⟨t,e⟩:=(show ∃t,u=Value.str x t from r);subst e;exact sE P w x t
theorem o8:∀{ks:List bI}{Y:LV},aQ (ks.map kV) Y->ItemsAre (bU P w) ks Y
 | [],_,r=>by rw [fW] at r;cases r;exact .nil
 | k::ks,_,r=>by
  rw [List.map_cons] at r;cases r with
  | cons h t=>exact .cons (lO h) (o8 t)
noncomputable abbrev KT (H:Hp):List (List bI×V)->List (List bI×Addr×Value)->Prop:=Paired fun p q=>p.1=q.1/\H q.2.1=some (.tup (p.1.map kV))/\RelV p.2 q.2.2
theorem KT.val {H:Hp}{j:List (List bI×V)}{xs:List (List bI×Addr×Value)} (r:KT H j xs) (k:List bI):i3 (fQ j k) ((atKey xs k).map (·.2)):=by
 induction r with
 | nil=>exact True.intro
 | @cons p q ps qs h t i=>
  obtain⟨J,_,h2⟩:=h;by_cases e:p.1=k
  .have x:q.1=k:=J.symm.trans e;have b:atKey (q::qs) k=some q.2:=by simp [atKey,i8,x]
   rw [gG e,b];exact h2
  .have x:¬q.1=k:=fun z=>e (J.trans z);have b:atKey (q::qs) k=atKey qs k:=by simp [atKey,i8,x]
   rw [fP e,b];exact i
variable {H:Hp}{j:List (List bI×V)}{xs:List (List bI×Addr×Value)}{y:V}
theorem KT.repl (r:KT H j xs) (k:List bI) (a:RelV y u) :
  KT H (j.map fun v=>if v.1=k then (v.1,y) else v) (xs.map (putAt k u)):=by
 induction r with
 | nil=>exact .nil
 | @cons p q ps qs h t i=>
  rw [List.map_cons,List.map_cons];refine .cons ?_ i;obtain⟨J,h2,x⟩:=h;unfold putAt;by_cases e:p.1=k
  .rw [if_pos e,if_pos (J.symm.trans e)];exact⟨J,h2,a⟩
  .rw [if_neg e,if_neg (fun z=>e (J.trans z))];exact⟨J,h2,x⟩
theorem KT.put (r:KT H j xs) (k:List bI) (x:H b=some (.tup (k.map kV))) (h:RelV y u) :
  KT H (putK j k y) (storedH xs k b u):=by
 have e:(j.any fun v=>decide (v.1=k))=(atKey xs k).isSome:=by rw [r_,(r.val k).isSome_eq,Option.isSome_map]
 unfold putK storedH;rw [e];by_cases q:(atKey xs k).isSome=true
 .rw [if_pos q,if_pos q];exact r.repl k h
 .rw [if_neg q,if_neg q];exact Paired.snoc r ⟨rfl,x,h⟩
theorem KT.keeps (r:KT H j xs) (h:∀b ys,H b=some (.tup ys)->H' b=some (.tup ys)):KT H' j xs:=
 Paired.mapP r fun _ _ z=>⟨z.1,h _ _ z.2.1,z.2.2⟩
section
variable {P:Program}{w:World}{H:Hp}{h:Heap}{a:Addr}
theorem BO {u:HO} (ok:jH P w H h) (e:Rd H a u):ci P w H h a u:=e.ok ok
theorem pc {j:List (bI×V)} (ok:jH P w H h) (e:Rd H a (.dK j)):j.length≤sizeLine/\(a == sysModules)=false/\∃v,KV j v/\h.DictOf (bU P w) a v:=
 show ci P w H h a (.dK j) from BO ok e
theorem wc {j:List (bI×V)} (ok:jH P w H h) (e:H a=some (.dK j)):j.length≤sizeLine/\(a == sysModules)=false/\∃v,KV j v/\h.DictOf (bU P w) a v:=pc ok (.inl e)
theorem li (ok:jH P w H h) (e:H a=some (.tup (ks.map kV))):(tupleKind (bU P w)).is h ks a:=by obtain⟨_,i,r,o,J,⟨h2,n,x⟩,_⟩:=(show ci P w H h a (.tup (ks.map kV)) from ok a _ e);exact⟨o,i.toArray,n,J,h2,x,by simpa using o8 r⟩
theorem pb (ok:jH P w H h) (e:Rd H a (.dT j)):j.length≤sizeLine/\(a == sysModules)=false /\
  ∃xs,KT H j xs/\h.DictOfH (tupleKind (bU P w)) a xs:=by
 obtain⟨z,y,xs,r,o,es,k,J,h2,f,b,c⟩:=(show ci P w H h a (.dT j) from BO ok e);refine⟨z,y,xs,r,o,es,k,J,h2,f,b,fun x s=>?_,c⟩;have all:∀{l:List (List bI×V)}{m:List (List bI×Addr×Value)},KT H l m->∀x ∈ m,(tupleKind (bU P w)).is h x.1 x.2.1:=by
  intro l m q;induction q with
  | nil=>intro x s;exact nomatch s
  | @cons p q ps qs n t i=>
   intro x s;rcases az.mp s with e | s
   .subst e;exact li ok (by rw [<- n.1];exact n.2.1)
   .exact i x s
 exact all r x s
theorem GP (ok:jH P w H h) (e:H a=some (.dT j)):j.length≤sizeLine/\(a == sysModules)=false /\
  ∃xs,KT H j xs/\h.DictOfH (tupleKind (bU P w)) a xs:=pb ok (.inl e)
end
noncomputable def iT (H:Hp) (a:Addr) (y:V) (r:Option V):Prop:=
 (∃j k,Rd H a (.dK j)/\y=kV k/\r=fQ j k)\/∃j k b,Rd H a (.dT j)/\y=.ref b/\H b=some (.tup (k.map kV))/\r=fQ j k
noncomputable def tZ (H:Hp) (a:Addr) (y v:V) (H':Hp):Prop:=
 (∃j k,H a=some (.dK j)/\y=kV k/\j.length < sizeLine/\H'=cm H a (.dK (putK j k v))) \/
 ∃j k b,H a=some (.dT j)/\y=.ref b/\H b=some (.tup (k.map kV))/\j.length < sizeLine/\H'=cm H a (.dT (putK j k v))
theorem iT.k {H:Hp}{a:Addr}{j:List (bI×V)}{k:bI} (e:H a=some (.dK j)):iT H a (kV k) (fQ j k):=.inl ⟨j,k,.inl e,rfl,rfl⟩
theorem iT.t {H:Hp}{a b:Addr}{j:List (List bI×V)}{k:List bI} (e:H a=some (.dT j)) (h:H b=some (.tup (k.map kV))):iT H a (.ref b) (fQ j k):=.inr ⟨j,k,b,.inl e,rfl,h,rfl⟩
theorem tZ.k {H:Hp}{a:Addr}{j:List (bI×V)}{k:bI}{v:V} (e:H a=some (.dK j)) (h:j.length < sizeLine):tZ H a (kV k) v (cm H a (.dK (putK j k v))):=.inl ⟨j,k,e,rfl,h,rfl⟩
theorem tZ.t {H:Hp}{a b:Addr}{j:List (List bI×V)}{k:List bI}{v:V} (e:H a=some (.dT j)) (h:H b=some (.tup (k.map kV))) (l:j.length < sizeLine) :
  tZ H a (.ref b) v (cm H a (.dT (putK j k v))):=.inr ⟨j,k,b,e,rfl,h,l,rfl⟩
section
variable {X:Cx}{B:PN}{G:St}{H:Hp}{s:Shared}{a:Addr}{y v:V}{u r:Value}{o:Option V}{A:Around}{E:VP}
theorem Inv.big (I:Inv X B G H s):sysModules < s.heap.objs.size:=by have h:mainGlobals < s.heap.objs.size:=(I.mod.glob.keeps I.bk).lt;exact kS (by decide) h
theorem pe (i:A.units+1 < cLine) (I:Inv X B G H s) (g:iT H a y (some v)) (m:RelV y u) (h:∀n z,Inv X B G H z->RelV v n->Q n z) :
  wpAny (model X.prog X.w) A (getItem (.ref a) u) Q E s:=by
 rcases g with ⟨j,k,e,f,l⟩ | ⟨j,k,b,e,f,t,l⟩
 .subst f;obtain⟨x,hd,S,r,d⟩:=pc I.hok e;obtain⟨n,hw,w⟩:=i3.some_of (v:=v) (o:=valueAt S k) (by rw [l];exact r.val k);exact wpAny_getItem_of (lO m) d.mapOf hw (h n _ (I.tok _) w)
 .subst f;cases (show u=Value.ref b from m);obtain⟨x,hd,xs,r,d⟩:=pb I.hok e;obtain⟨n,hw,w⟩:=i3.some_of (v:=v) (o:=(atKey xs k).map (·.2)) (by rw [l];exact r.val k);obtain⟨p,q,c⟩:=jc.mp hw;refine wpAny_getItem_heap (mU i) (li I.hok t) d q ?_;rw [c];exact h n _ (I.tok _) w
theorem JI (m:A.units+1 < cLine) (I:Inv X B G H s) (g:iT H a y o) (f:RelV y u) (h:∀z,Inv X B G H z->Q (.bool o.isSome) z) :
  wpAny (model X.prog X.w) A (compareOp .In u (.ref a)) Q E s:=by
 rcases g with ⟨j,k,e,n,l⟩ | ⟨j,k,b,e,n,c,l⟩
 .subst n;obtain⟨x,hd,v,r,d⟩:=pc I.hok e;refine wpAny_in_of (lO f) hd d.mapOf ?_;rw [<- (r.val k).isSome_eq,<- l];exact h _ (I.tok _)
 .subst n;cases (show u=Value.ref b from f);obtain⟨x,hd,xs,r,d⟩:=pb I.hok e;refine wpAny_in_heap (mU m) (li I.hok c) hd d ?_;have q:=(r.val k).isSome_eq;rw [Option.isSome_map] at q;rw [<- q,<- l];exact h _ (I.tok _)
theorem qX {t:Nat} (I:Inv X B G H s) (m:He (H a)) (f:Heap.SameBut a s.heap h') (k:∃q,h'.get? a=some q) (n:ci X.prog X.w (cm H a N) h' a N) :
  Inv X B G (cm H a N) { s with heap:=h',toks:=t }:=
 I.write (x:=a) (e:=a) m (.inl rfl) (fun b q h z=>(f.2 b h).trans z) k n
theorem zD {P:Program}{w:World}{H':Hp}{h':Heap}{j:List (bI×V)}{v:List (bI×Value)} (z:j.length≤sizeLine) (hd:(a == sysModules)=false) (r:KV j v) (d:h'.DictOf (bU P w) a v) :
  ci P w H' h' a (.dK j):=⟨z,hd,v,r,d⟩
theorem xq {H':Hp}{Q:Unit->Shared->Prop} (N:A.units+1 < cLine) (I:Inv X B G H s) (g:tZ H a y v H') (P:RelV y u) (K:RelV v r) (h:∀z,Inv X B G H' z->Q () z) :
  wpAny (model X.prog X.w) A (setItem (.ref a) u r) Q E s:=by
 rcases g with ⟨j,k,e,p,l,t⟩ | ⟨j,k,b,e,p,S,l,t⟩
 .subst p t;obtain⟨x,hd,O,n,m⟩:=wc I.hok e;have o:O.length≤sizeLine:=by rw [<- n.length];exact x
  have w:(putK j k v).length≤sizeLine:=by have:=jg j k v;lia
  refine wpAny_setItem_pairs (hsz:=o) (lO P) m fun h' d i=>h _ ?_;have M:∃q,h'.get? a=some q:=let ⟨q,_,_,f,_⟩:=d;⟨q,f⟩
  exact qX I (by rw [e];exact True.intro) i M (zD w hd (n.put k K) d)
 .subst p t;cases (show u=Value.ref b from P);obtain⟨x,hd,xs,n,m⟩:=GP I.hok e;have o:xs.length≤sizeLine:=by rw [<- Paired.length n];exact x
  have w:(putK j k v).length≤sizeLine:=by have:=jg j k v;lia
  refine wpAny_setItem_heap (hsz:=o) (mU N) (li I.hok S) m fun h' d i=>h _ ?_;obtain⟨q,es,C,f,h2,D,J,_,L⟩:=d;refine qX I (by rw [e];exact True.intro) i ⟨q,f⟩ ⟨w,hd,_,(n.put k S K).keeps fun c ys F=>?_,q,es,C,f,h2,D,J,L⟩;rw [aE (F9 F e (fun x=>nomatch x))];exact F
end
noncomputable def FA (td ty tv:TE):TS:=fun D G H=>tv G H fun v U=>td G U fun x H2=>ty G H2 fun y e=>∃a h,x=.ref a/\tZ e a y v h/\D.nx G h
section
variable {X:Cx}{o i e value:Expr}{O pos' tpos:Pos}{td ty tv:TE}
theorem vH (t:X.A.units+1 < cLine) (c:PE X o td) (q:PE X i ty) (p:PE X value tv) (m:swapsWith value (some (.Subscript o i pos')) O.line X.env=pure false) :
  PS X (.Assign [.Subscript o i pos'] value O) (FA td ty tv):=by
 intro B s G H D I h;refine wpAny_Assign_Subscript (cY (p B s G H _ I h) fun r K ⟨v,U,n,l,d⟩=>cY (c B K G U _ n d) fun u P ⟨x,H2,k,S,w⟩=>cY (q B P G H2 _ k w) fun C E z=>?_) m;obtain⟨y,A,f,F,a,e,ex,g,j⟩:=z;subst ex;obtain rfl:u=Value.ref a:=S;exact xq t f g F l fun J b=>⟨G,e,b,j⟩
end
theorem zE (h:Heap) (b:sysModules < h.objs.size):ci P w H (h.push { cls:=.type "dict",data:=.dict #[] }) h.objs.size (.dK []):=
 ⟨Nat.zero_le _,j3.mpr (Ne.symm (b_ b)),[],.nil,Heap.DictOf.new h⟩
theorem zC (h:Heap) (b:sysModules < h.objs.size):ci P w H (h.push { cls:=.type "dict",data:=.dict #[] }) h.objs.size (.dT []):=
 ⟨Nat.zero_le _,j3.mpr (Ne.symm (b_ b)),[],.nil,_,#[],0,Heap.get?_push_size _ rfl,⟨rfl,rfl,rfl⟩,rfl,rfl,List.nodup_nil⟩
noncomputable def CF:TE:=fun _ H Q=>∀p,H p=none->Q (.ref p) (cm H p (.dK []))
noncomputable def CD:TE:=fun _ H Q=>∀p,H p=none->Q (.ref p) (cm H p (.dT []))
section
variable {X:Cx}{O:Pos}
theorem yH:PE X (.Dict [] [] O) CF:=fun B s G H Q I h=>
 wpAny_Dict_empty ⟨.ref s.heap.objs.size,_,I.laid (a:=s.heap.objs.size) (o:=.dK []) (t':=s.toks) (fun _ _ q=>Heap.get?_push_of_some _ q) (Nat.le_refl _) (zE s.heap I.big),rfl,h _ (I.hok.fresh (Nat.le_refl _))⟩
theorem yG:PE X (.Dict [] [] O) CD:=fun B s G H Q I h=>
 wpAny_Dict_empty ⟨.ref s.heap.objs.size,_,I.laid (a:=s.heap.objs.size) (o:=.dT []) (t':=s.toks) (fun _ _ q=>Heap.get?_push_of_some _ q) (Nat.le_refl _) (zC s.heap I.big),rfl,h _ (I.hok.fresh (Nat.le_refl _))⟩
end
noncomputable abbrev VV:List (V×V)->List (Value×Value)->Prop:=Paired fun p q=>RelV p.1 q.1/\RelV p.2 q.2
structure M1 (X:Cx) (o:Expr) (m:Str) (apos:Pos) (e:Expr) (cpos:Pos):Prop where
 base:attributeBase o m X.env (eval o X.env)=eval o X.env
 few:((backTo cpos (starEach [e] X.env)).all (fun x=>!x.1) && (backToKw cpos (keywordEach [] X.env)).all (fun x=>x.1.isSome)
  && decide (([e]:Ab).length+([]:List Keyword).length+(if ([]:List Keyword).isEmpty then 0 else 1) < 30))=true
 line:(apos.endLine == cpos.line)=true
 trees:backTo cpos (starEach [e] X.env)=[(false,eval e X.env)]
structure M2 (X:Cx) (o:Expr) (m:Str) (apos:Pos) (e f:Expr) (cpos:Pos):Prop where
 base:attributeBase o m X.env (eval o X.env)=eval o X.env
 few:((backTo cpos (starEach [e,f] X.env)).all (fun x=>!x.1) && (backToKw cpos (keywordEach [] X.env)).all (fun x=>x.1.isSome)
  && decide (([e,f]:Ab).length+([]:List Keyword).length+(if ([]:List Keyword).isEmpty then 0 else 1) < 30))=true
 line:(apos.endLine == cpos.line)=true
 trees:backTo cpos (starEach [e,f] X.env)=[(false,eval e X.env),(false,eval f X.env)]
noncomputable def JT (H:Hp) (a:Addr):Prop:=(∃j,Rd H a (.dK j))\/∃j,Rd H a (.dT j)
variable {B:PN}{G:St}{s:Shared}
theorem uM (I:Inv X B G H s) (d:JT H a) :
  s.TypeIs (.ref a) "dict"/\(∀b,Value.ref a=.ref b->∃o,s.heap.get? b=some o/\o.dict=none)/\(a == sysModules)=false:=by
 rcases d with ⟨j,e⟩ | ⟨j,e⟩
 .obtain⟨_,hd,v,_,h⟩:=pc I.hok e;refine⟨h.typeIs,fun b q=>?_,hd⟩;cases q;obtain⟨o,_,_,J,h2,_⟩:=h;exact⟨o,J,h2.2.1⟩
 .obtain⟨_,hd,xs,_,h⟩:=pb I.hok e;refine⟨h.typeIs,fun b q=>?_,hd⟩;cases q;obtain⟨o,_,_,J,h2,_⟩:=h;exact⟨o,J,h2.2.1⟩
section
variable {X:Cx}{B:PN}{G:St}{H:Hp}{s:Shared}{a:Addr}{y d:V}{u r:Value}{o:Option V}{A:Around}{E:VP}
theorem D4 (m:A.units+1 < cLine) (I:Inv X B G H s) (g:iT H a y o) (f:RelV y u) (h:∀w z,Inv X B G H z->RelV (o.getD .non) w->Q w z) :
  wpAny (model X.prog X.w) A (call (.builtin "dict.get") [.ref a,u]) Q E s:=by
 rcases g with ⟨j,k,e,n,l⟩ | ⟨j,k,b,e,n,c,l⟩
 .subst n;obtain⟨x,hd,v,r,d⟩:=pc I.hok e;refine km kW d.typeIs pS (PySem.F.args_dict_get_2 _ _) (meets_dict_get (bU X.prog X.w) a (lO f) hd) ⟨_,d.mapOf,h _ _ (I.tok _) ?_⟩;rw [l];exact (r.val k).getD rfl
 .subst n;cases (show u=Value.ref b from f);obtain⟨x,hd,xs,r,d⟩:=pb I.hok e;refine km kW d.typeIs pS (PySem.F.args_dict_get_2 _ _) (meetsH_dict_get (tupleKind (bU X.prog X.w)) a b hd) ⟨mU m,k,xs,li I.hok c,d,h _ _ (I.tok _) ?_⟩;rw [l];exact (r.val k).getD rfl
theorem D3 (q:A.units+1 < cLine) (I:Inv X B G H s) (g:iT H a y o) (t:RelV y u) (m:RelV d r) (h:∀w z,Inv X B G H z->RelV (o.getD d) w->Q w z) :
  wpAny (model X.prog X.w) A (call (.builtin "dict.get") [.ref a,u,r]) Q E s:=by
 rcases g with ⟨j,k,e,c,l⟩ | ⟨j,k,b,e,c,p,l⟩
 .subst c;obtain⟨x,hd,v,n,f⟩:=pc I.hok e;refine km kW f.typeIs pS (PySem.F.args_dict_get_3 _ _ _) (meets_dict_get_default (bU X.prog X.w) a (lO t) hd r) ⟨_,f.mapOf,h _ _ (I.tok _) ?_⟩;rw [l];exact (n.val k).getD m
 .subst c;cases (show u=Value.ref b from t);obtain⟨x,hd,xs,n,f⟩:=pb I.hok e;refine km kW f.typeIs pS (PySem.F.args_dict_get_3 _ _ _) (meetsH_dict_get_default (tupleKind (bU X.prog X.w)) a b hd r) ⟨mU q,k,xs,li I.hok p,f,h _ _ (I.tok _) ?_⟩;rw [l];exact (n.val k).getD m
end
noncomputable def CH (td ty:TE):TE:=fun G H Q=>td G H fun x U=>∃a,x=.ref a/\JT U a/\ty G U fun y H2=>∃o,iT H2 a y o/\Q (o.getD .non) H2
noncomputable def CG (td ty tx:TE):TE:=fun G H Q=>td G H fun x U=>∃a,x=.ref a/\JT U a/\ty G U fun y H2=>tx G H2 fun z h=>∃o,iT h a y o/\Q (o.getD z) h
section
variable {X:Cx}{o e f:Expr}{apos cpos:Pos}{td ty tx:TE}
theorem yJ (t:X.A.units+1 < cLine) (c:PE X o td) (b:PE X e ty) (m:M1 X o "get" apos e cpos):PE X (.Call (.Attribute o "get" apos) [e] [] cpos) (CH td ty):=by intro B s G H Q I h;refine wpAny_Call_method m.base m.few m.line ub kW PySem.F.type_dict_get (cY (c B s G H _ I h) fun u i z=>?_);obtain⟨x,U,n,v,a,ex,d,q⟩:=z;subst ex;obtain rfl:u=Value.ref a:=v;obtain⟨j,l,_⟩:=uM n d;refine⟨j,l,?_⟩;rw [m.trees];refine Calls.callWith_builtin rfl (Calls.evalArgs_plain (Calls.spliced_cons (cY (b B i G U _ n q) fun S K ⟨y,H2,k,w,F,g,p⟩=>jZ ?_)));exact D4 t k g w fun A P f r=>⟨_,H2,f,r,p⟩
theorem yI (w:X.A.units+1 < cLine) (v:PE X o td) (p:PE X e ty) (q:PE X f tx) (m:M2 X o "get" apos e f cpos):PE X (.Call (.Attribute o "get" apos) [e,f] [] cpos) (CG td ty tx):=by
 intro B s G H Q I h;refine wpAny_Call_method m.base m.few m.line ub kW PySem.F.type_dict_get (cY (v B s G H _ I h) fun u A i=>?_);obtain⟨x,U,n,F,a,ex,d,j⟩:=i;subst ex;obtain rfl:u=Value.ref a:=F;obtain⟨D,E,_⟩:=uM n d;refine⟨D,E,?_⟩;rw [m.trees];refine Calls.callWith_builtin rfl (Calls.evalArgs_plain (Calls.spliced_cons (cY (p B A G U _ n j) fun L C ⟨y,H2,b,K,l⟩=>
  Calls.spliced_cons (cY (q B C G H2 _ b l) fun J N ⟨z,k,c,P,M,g,S⟩=>jZ ?_))))
 exact D3 w c g K P fun R O t r=>⟨_,k,t,r,S⟩
end
end L2
namespace Att
open PySem PySem.W PySem.Calls PyProof.Rows
theorem mi:∀(s:List Int) (v:LV),WellAll P h v (s.map WData.int)->IntsAre v s:=by
 intro s;induction s with
 | nil=>intro v w;rw [fW] at w;cases w;exact .nil
 | cons n s i=>
  intro v w;rw [List.map_cons] at w;cases w with
  | cons a b=>cases a;exact .cons _ _ (i _ b)
theorem wO {l:OpenLaw} (t:l.most=some n)
  (p:l.row.toRowW.claim.pre N=true) (w:WellAll P h vals N) :
  ∃a v s,vals=[Value.ref a]/\N=[WData.list (s.map WData.int)]/\h.get? a=some { cls:=.type "list",data:=.seq v.toArray }/\IntsAre v s/\s.length≤n:=by
 have b:WShape.hasAll [] N [.list .int]=true:=(pre_splitW p).1;have c:l.pre.holds [] { args:=N }=true:=(pre_splitW p).2;obtain⟨d,r,rfl,J,h2⟩:=hasAllW_cons b;obtain rfl:=hasAllW_nil h2;obtain⟨xs,rfl,m⟩:=hasW_list J;obtain⟨s,rfl⟩:=items_int m;have e:s.length≤n:=by
  unfold OpenLaw.pre at c;have k:(WTm.not (.lt (.lit (.int (n:Int))) (.len (.arg 0)))).holds [] { args:=[.list (s.map .int)] }=true:=by have k:=(holds_andW c).1;rw [t] at k;exact k
  have f:=condW_of k (w_not (w_lt w_lit (w_len_list (w_arg rfl))));rw [bP] at f;refine Nat.le_of_not_lt fun q=>?_;have u:(n:Int) < ((s.length:Nat):Int):=by lia
  first
   | (rw [im u] at f;exact absurd f (by decide))
   | (simp at f;lia)
 cases w with
 | cons g i=>
  cases i;cases g with
  | list o x=>exact⟨_,_,s,rfl,rfl,o,mi s _ x,e⟩
theorem wR (l:OpenLaw) (a:List WData):l.row.toRowW.claim.post a (.bool true) a=true:=
 postW_of (r:=l.row.toRowW) (X:=(true == true))
  (show WShape.has [] (.bool true) .bool=true by first | rfl | decide | simp [WShape.has,WShape.arms,WShape.armsAll])
  (show (WTm.eq .res (.lit (.bool true))).value [] { args:=a,res:=some (.bool true),after:=a }=some (.bool (true == true)) from w_eq_bool (w_res rfl) w_lit) rfl
theorem attach_call {l:OpenLaw}
  (E:l.most=some n) (q:d.params.defaults=[])
  (call:∀(w:World) (h s:Shared) (mg j:SV) (x:Addr) (o:Obj) (y k c:Value) (a:Addr) (v:LV) (m:List Int),
   Ground N loose [] XP w h mg j s.heap->YP w s.heap ->
   s.heap.get? x=some o->o.data=.func (docDef d.name d.params d.body d.scope y k c)->s.heap.CodeRec k d.name->mg d.name=some (.ref x) ->
   s.heap.get? a=some { cls:=.type "list",data:=.seq v.toArray }->IntsAre v m->m.length≤n->s.gens=#[] ->
   codeAny (model l.prog w) callerA (.call (.ref x) ⟨[.ref a],[]⟩) (fun r z=>r=.ok (.ret (.bool true))/\OldK s.heap z.heap/\z.os=s.os/\AllBare z.gens) s) :
  WalkO N loose XP YP l.row.toRowW d [] (fun f v=>PySem.call f v):=by
 intro w h s mg j G Y x o y k c V kV I hd t D g A H F M p S L u B;obtain rfl:V=.none:=Dflts.none D q;obtain rfl:kV=.none:=Dflts.noKw D;obtain⟨a,v,m,rfl,rfl,b,i,e⟩:=wO E p u;refine enter_call (codeAny_mono (call w h s mg j x o y k c a v m G Y I (fd_plain hd) t g b i e A) fun r z J=>?_);obtain⟨rfl,h2,K,P⟩:=J;exact⟨.inl ⟨.bool true,.bool true,[],rfl,fun _=>rfl,.bool true,wR l _,fun _=>⟨List.Pairwise.nil,fun _ C=>(nomatch C)⟩⟩,h2,K,P⟩
end Att
namespace L2
open PySem PySem.Spec PyProof.Rows
theorem oO:∀{v:LV}{s:List Int},IntsAre v s->aQ (s.map V.int) v
 | _,_,.nil=>.nil
 | _,_,.cons n t h=>.cons ⟨t,rfl⟩ (oO h)
noncomputable def xF (H:Hp):Prop:=∀b,H b=none\/∃o xs,H b=some (.frz o (.lst xs))
theorem y4 {P:Program}{w:World}{K:FG}{mg W:SV}{CX:xI}{k:Nat}{Q a:Addr}{fd:FuncData}{x:Str}{sp:Sp}{t:Shared}{y:LV}{L:List Int}
  (Z:K.In t.heap) (D:t.heap.Ns mainGlobals mg) (g:t.heap.Ns builtinsNs W) (R:∀x:Str,x≠"__name__"->W x=bootBuiltins x) (C:t.heap.NoLimit) (hg:t.gens=#[])
  (N:t.heap.get? a=some { cls:=.type "list",data:=.seq y.toArray }) (q:IntsAre y L) (hl:L.length≤sizeLine) (hr:Room k callerA)
  (F:∀base:Heap,K.In base->base.Ns mainGlobals mg->FnOk P w K mg base CX k Q fd [x] sp) (l:∀(s:Shared) (u:Value),BindsTo s fd ⟨[u],[]⟩ [(x,u)])
  (U:∀H:Hp,xF H->gY K H a (L.map V.int)->sp [.ref a] H (fun v _=>v=.bl true) fun _ _ _=>False)
  (X:∀H e z,CX [] H t (fun _ _ _=>False) e z->False) :
  codeAny (model P w) callerA (.call (.ref Q) ⟨[.ref a],[]⟩) (fun r z=>r=.ok (.ret (.bool true))/\OldK t.heap z.heap/\z.os=t.os/\AllBare z.gens) t:=by
 have rv:=oO q;have I:=q.length;have j:∀H:Hp,xF H->gY K H a (L.map V.int)->jH P w H t.heap->(∀b,H b≠none->b=a)->(H a≠none->K.lookup a=none) ->
   codeAny (model P w) callerA (.call (.ref Q) ⟨[.ref a],[]⟩) (fun r z=>r=.ok (.ret (.bool true))/\OldK t.heap z.heap/\z.os=t.os/\AllBare z.gens) t:=by
  intro H hO hS E hA hK;have p:∀{b:Addr}{o:Obj},t.heap.get? b=some o->H b=none->(qK t.heap H).get? b=some o:=fun e n=>zq e n
  have Y:∀{b:Addr}{o:Obj}{es:Array DictEntry}{A:Nat},t.heap.get? b=some o->o.data=.dict es A->H b=none:=fun {b o es A} e d=>by
   cases f:H b with
   | none=>rfl
   | some u=>have O:b=a:=hA b (by rw [f];simp);subst O;rw [N] at e;cases e;have d':Data.seq y.toArray _=Data.dict es A:=d;cases d'
  have i:∀{b:Addr}{m:SV},t.heap.Ns b m->(qK t.heap H).Ns b m:=fun {b m} ⟨o,es,A,e,d,r⟩=>⟨o,es,A,p e (Y e d),d,r⟩;have B:K.In (qK t.heap H):=fun b o e=>p (Z b o e) (by
   cases f:H b with
   | none=>rfl
   | some u=>have O:b=a:=hA b (by rw [f];simp);subst O;rw [hK (by rw [f];simp)] at e;cases e)
  have hM:Mod K mg (qK t.heap H):=⟨B,i D,⟨W,i g,R⟩,let ⟨mc,J,h2⟩:=C;⟨mc,i J,h2⟩⟩;have e0:Env0 P w K mg (qK t.heap H) callerA [] t H:=⟨rfl,hM,fun b o e=>A2 e,Nat.le_of_eq (xg _ _),trivial,fun b g=>absurd (show b ∈ ([]:List Addr) from g) (by simp),E,.of_eq hg⟩;refine codeAny_mono ((F _ B (i D)).run callerA [] t H ⟨[.ref a],[]⟩ [.ref a] [.ref a] _ _ hr e0 (l t (.ref a)) (.cons rfl .nil) (U H hO hS)) fun r z h=>?_;cases r with
  | error e=>exact (X H e z h).elim
  | ok fl=>
   cases fl with
   | next=>exact False.elim h
   | brk=>exact False.elim h
   | cont=>exact False.elim h
   | ret u=>
    obtain⟨v,H',os,S,un,G,r',f⟩:=h;have q':v=.bl true:=f;subst q';obtain rfl:u=Value.bool true:=r';refine⟨rfl,OldK.of_keep fun b o e=>?_,os,S⟩;cases f:H b with
    | none=>exact un.keep b o e f (by intro c;exact absurd (show b ∈ ([]:List Addr) from c) (by simp)) (by simp)
    | some u=>
     rcases hO b with c | ⟨ob,xs,c⟩
     .rw [f] at c;cases c
     .have z2:=un.frzs b ob _ c;obtain⟨e1,_⟩:=E b _ c;obtain⟨e2,_⟩:=G b _ z2;rw [e] at e1;cases e1;exact e2
 cases T:K.lookup a with
 | some o=>have e:=Z a o T;rw [N] at e;cases e;refine j (fun _=>none) (fun _=>.inl rfl) (.inr ⟨_,y.toArray,_,T,rfl,rfl,rfl,by rw [List.size_toArray,I];exact hl,by simpa using rv⟩) (fun b u c=>by have M:(none:Option HO)=some u:=c;cases M) (fun b c=>absurd rfl c) fun c=>absurd rfl c
 | none=>
  refine j (fun b=>if b=a then some (.frz { cls:=.type "list",data:=.seq y.toArray } (.lst (L.map V.int))) else none) (fun b=>?_) (.inl (.inr ⟨{ cls:=.type "list",data:=.seq y.toArray },if_pos rfl⟩)) (fun b u c=>?_) (fun b c=>?_) fun _=>T
  .by_cases g:b=a
   .exact .inr ⟨_,_,if_pos g⟩
   .exact .inl (if_neg g)
  .by_cases g:b=a
   .have M:=(if_pos g).symm.trans c;cases M;subst g;exact⟨N,by rw [bP];exact hl,y,_,rv,N⟩
   .have M:=(if_neg g).symm.trans c;cases M
  .by_cases g:b=a
   .exact g
   .exact absurd (if_neg g) c
noncomputable abbrev Ko {K:FG} (_:K.In h):FG:=K
theorem Aj {l:PySem.W.OpenLaw}{n k:Nat}{q:Program}{c:LS}{D:(SV)->Heap->Prop}{P:World->Heap->Prop}{d:DefRec}{K:Params->FG}{CX:World->xI}{sp:World->Sp}{x:Str}
  (R:l.most=some n) (y:n≤sizeLine) (p:d.params.defaults=[]) (T:Room k callerA)
  (L:∀(w:World) (h:Heap),P w h->(K w.params).In h)
  (F:∀(w:World) (mg:SV) (r:Addr) (h:Heap),(K w.params).In h->h.Ns mainGlobals mg->mg d.name=some (.ref r) ->
   ∃fd:FuncData,(∀(s:Shared) (u:Value),BindsTo s fd ⟨[u],[]⟩ [(x,u)]) /\
    ∀base:Heap,(K w.params).In base->base.Ns mainGlobals mg->FnOk l.prog w (K w.params) mg base (CX w) k r fd [x] (sp w))
  (S:∀(w:World) (H:Hp) (a:Addr) (t:List Int),t.length≤n->xF H->gY (K w.params) H a (t.map V.int)->sp w [.ref a] H (fun v _=>v=.bl true) fun _ _ _=>False)
  (C:∀(w:World) (H:Hp) (s:Shared) (e:Value) (z:Shared),CX w [] H s (fun _ _ _=>False) e z->False) :
  PySem.W.WalkO q c D P l.row.toRowW d [] (fun f B=>PySem.call f B):=by
 refine Att.attach_call R p fun w A m mg Z r o pm U E a B t G Y W hd N g j i b Q=>?_;have X:=L w _ Y;obtain⟨fd,M,I⟩:=F w mg r _ X G.T.g g;exact y4 X G.T.g G.T.b G.T.builtins G.T.nolimit Q j i (aU b y) T I M (fun H O J=>S w H a t b O J) fun H e z=>C w H m e z
theorem xT {l:PySem.W.OpenLaw}{n k:Nat}{q:Program}{o:LS}{X:(SV)->Heap->Prop}{Y:World->Heap->Prop}{d:DefRec}{K:Params->FG}{CX:xI}{sp:FG->Sp}{x:Str}
  (i:l.most=some n) (m:n≤sizeLine) (c:d.params.defaults=[]) (j:Room k callerA)
  (g:∀(w:World) (h:Heap),Y w h->(K w.params).In h)
  (F:∀(w:World) (mg:SV) (r:Addr) (h:Heap),(K w.params).In h->h.Ns mainGlobals mg->mg d.name=some (.ref r) ->
   ∃fd:FuncData,(∀(s:Shared) (u:Value),BindsTo s fd ⟨[u],[]⟩ [(x,u)]) /\
    ∀base:Heap,(K w.params).In base->base.Ns mainGlobals mg->FnOk l.prog w (K w.params) mg base CX k r fd [x] (sp (K w.params)))
  (p:∀(K:FG) (H:Hp) (a:Addr) (b:List Int),b.length≤n->xF H->gY K H a (b.map V.int)->sp K [.ref a] H (fun v _=>v=.bl true) fun _ _ _=>False)
  (C:∀(H:Hp) (s:Shared) (e:Value) (z:Shared),CX [] H s (fun _ _ _=>False) e z->False) :
  PySem.W.WalkO q o X Y l.row.toRowW d [] (fun f y=>PySem.call f y):=
 Aj (K:=K) (CX:=fun _=>CX) (sp:=fun w=>sp (K w.params)) i m c j g F (fun w H a b J h2 t=>p (K w.params) H a b J h2 t) fun _ H s e z=>C H s e z
noncomputable def cz (s:Stmt) (j:Nat):Stmt:=match s with
 | .ClassDef _ _ _ b _ _ _ _ _ _ _=>b.getD j (.Pass ⟨0,0,0,0⟩)
 | _=>.Pass ⟨0,0,0,0⟩
noncomputable def aC (s:Stmt):Arguments:=match s with
 | .FunctionDef _ a _ _ _ _ _ _ _ _=>a
 | _=>{ posonlyargs:=[],args:=[],vararg:=none,kwonlyargs:=[],kw_defaults:=[],kwarg:=none,defaults:=[] }
noncomputable def av (s:Stmt):List Stmt:=match s with
 | .FunctionDef _ _ b _ _ _ _ _ _ _=>b
 | _=>[]
noncomputable def ah (s:Stmt):Scope:=match s with
 | .FunctionDef _ _ _ _ _ _ sc _ _ _=>sc
 | _=>{ kind:=.function,names:=[],isGenerator:=false,isCoroutine:=false }
noncomputable abbrev pF:xI:=fun _ _ _ _ _ _=>False
noncomputable abbrev E0:XK:=fun _ _ _=>False
theorem oZ:kh pF X E0:=fun _ _ _ _ _ _ _ h=>h.elim
structure Fun (K:FG) (x qual:Str) (st:Stmt) (f:Addr) (fd:FuncData):Prop where
 ex:∃(oc:Value) (od:Option Addr) (kV doc pm:Value) (an:Option Addr) (cdv ct:Value) (osl:Array (OV)),
  fd=PySem.W.fnOf x qual (aC st) (av st) (ah st) .none kV doc pm an cdv ct/\K.lookup f=some ⟨oc,od,.func fd,osl⟩/\PySem.W.codeIn K cdv qual=true
 kp:PySem.W.keepIn K (.ref f)=true
section
variable {P:Program}{w:World}{K:FG}{mg:SV}{base:Heap}
theorem Fun.ok {x u:Str}{st:Stmt}{f:Addr}{fd:FuncData}{N ps:LS}{k:Nat}{sp:Sp} (F:Fun K x u st f fd) (S:FnScope N ps (ah st)) (len:∀v H Q E,sp v H Q E->v.length=ps.length)
  (b:∀(c:Value) (A:Around) (o:List Env) (s:Shared) (H:Hp) (v:List V) (Q:VK) (E:XK),Room k (A.deeper (envOfC u (ah st) s.heap.objs.size f c))->sp v H Q E ->
   ∃t,mx (tF pF P w K mg base N u (ah st) f c A o s H E).nox (av st) t/\t { nx:=fun _ H'=>Q .non H',rt:=Q } (start N v) H):FnOk P w K mg base pF (k+1) f fd ps sp:=by
 obtain⟨m,g,kV,a,i,n,c,e,l,rfl,lk,d⟩:=F.ex;refine GK lk d S len fun A o s H v Q E r p=>?_;obtain⟨t,h,q⟩:=b c A o s H v Q E r p;exact⟨t,h.nox,q⟩
theorem Fun.binds {x q:Str}{st:Stmt}{f:Addr}{fd:FuncData}{ps:LS} (F:Fun K x q st f fd)
  (h:∀(kV d p:Value) (a:Option Addr) (c t:Value) (Y:LV),Y.length=ps.length->bindArgs (PySem.W.fnOf x q (aC st) (av st) (ah st) .none kV d p a c t) ⟨Y,[]⟩=pure (ps.zip Y)):Binds K fd ps []:=by
 obtain⟨s,n,kV,d,p,a,c,t,o,rfl,lk,e⟩:=F.ex;exact .all (h kV d p a c t)
theorem ak {x q:Str}{st:Stmt}{f:Addr}{h:Value}{e a:Option Addr}{s:Array (OV)}{kV o p d t:Value} (l:K.lookup f=some ⟨h,e,.func (PySem.W.fnOf x q (aC st) (av st) (ah st) .none kV o p a d t),s⟩)
  (c:PySem.W.codeIn K d q=true) (k:PySem.W.keepIn K (.ref f)=true):Fun K x q st f (PySem.W.fnOf x q (aC st) (av st) (ah st) .none kV o p a d t):=⟨⟨h,e,kV,o,p,a,d,t,s,rfl,l,c⟩,k⟩
end
section
variable {X:Cx}
theorem pv (i:Nat) (N:X.N[i]? = some x:=by rfl) (v:Ed X.env.scope x:=by first | exact Or.inl rfl | exact Or.inr (Or.inl rfl) | exact Or.inr (Or.inr rfl)) (hd:(x == ("__debug__":Str))=false:=by decide)
  (h:(x == ("__classdict__":Str))=false:=by decide):PE X (.Name x O) (Fe i):=yA N v hd h
end
noncomputable def Lm (H H':Hp):Prop:=∀b o,H b=some o->H' b=some o
end L2
namespace PySem
open PySem PyProof.Rows
namespace F
theorem entry_dict_update_loop:entryFor table "dict.update.loop"=some Builtin.«dict.update.loop»:=entryFor_of_tree (by kernel_rfl)
theorem plain_dict_update_loop:plainId "dict.update.loop"=true:=by decide +kernel
end F
section
variable {prog:Program}{w:World}{A:Around}{E:VP}{s:Shared}
inductive PairsAt {K:Type} [DecidableEq K] (knd:KeyKind prog w K) (h:Heap):LV->List (K×Value)->Prop
 | nil:PairsAt knd h [] []
 | cons {t:Addr}{key v:Value}{k:K}{us:LV}{kvs:List (K×Value)}:IsTup h t #[key,v]->knd.is k key=true->PairsAt knd h us kvs->PairsAt knd h (.ref t::us) ((k,v)::kvs)
end
end PySem
namespace Ev
open PySem L2
noncomputable def Gu (a C:Addr):Heap->Prop:=fun h=>∃o,h.get? a=some o/\o.cls=.ref C
inductive P where
 | non | bl (b:Bool) | int (i:Int) | str (x:Str) | tup (xs:List P) | lst (xs:List P) | ro (xs:List P) | dct (ks:List bI) (vs:List P)
inductive D where
 | p (v:P) | ref (i:Nat)
inductive SO where
 | lst (xs:List D) | dct (ks:List bI) (vs:List D) | fz (v:P) | ins (c:Str) (ks:LS) (vs:List D) | exc (c:Str) | dtt (ks:List (List bI)) (vs:List D)
noncomputable abbrev aJ:=List SO
noncomputable abbrev Lc:=List (Option D)
noncomputable def JR (K:FG) (a:Addr) (xs:List V):Prop:=mQ K (fun _=>none) a xs
noncomputable def JS (K:FG) (a:Addr) (xs:List V):Prop:=gY K (fun _=>none) a xs
noncomputable def TupAt (K:FG) (H:Hp) (a:Addr) (xs:List V):Prop:=H a=some (.tup xs)\/JR K a xs
noncomputable def LstAt (F:Aa) (H:Hp) (a:Addr) (xs:List V):Prop:=F a/\H a=some (.lst xs)
noncomputable def xE (K:FG) (F:Aa) (H:Hp) (a:Addr) (xs:List V):Prop:=(F a/\∃o,H a=some (.frz o (.lst xs)))\/JS K a xs
variable {K:FG}{H:Hp}{a:Addr}{xs:List V}
theorem TupAt.sq (h:TupAt K H a xs):mQ K H a xs:=by
 rcases h with h | (h | h)
 .exact .inl (.inl h)
 .rcases h with h | ⟨o,h⟩ <;> cases h
 .exact .inr h
variable {F:Aa}
theorem LstAt.sq (h:LstAt F H a xs):gY K H a xs:=.inl (.inl h.2)
theorem xE.sq (h:xE K F H a xs):gY K H a xs:=by
 rcases h with ⟨_,o,h⟩ | (h | h)
 .exact .inl (.inr ⟨o,h⟩)
 .rcases h with h | ⟨o,h⟩ <;> cases h
 .exact .inr h
section
variable (K:FG) (F:Aa) (H:Hp)
mutual
noncomputable def RP:P->V->Prop
 | .non,v=>v=.non
 | .bl b,v=>v=.bl b
 | .int i,v=>v=.int i
 | .str x,v=>v=.str x
 | .tup ds,v=>∃a xs,v=.ref a/\TupAt K H a xs/\cA ds xs
 | .lst ds,v=>∃a xs,v=.ref a/\LstAt F H a xs/\cA ds xs
 | .ro ds,v=>∃a xs,v=.ref a/\xE K F H a xs/\cA ds xs
 | .dct ks ds,v=>∃a kvs,v=.ref a/\F a/\H a=some (.dK kvs)/\kvs.map (·.1)=ks/\cA ds (kvs.map (·.2))
noncomputable def cA:List P->List V->Prop
 | [],xs=>xs=[]
 | d::ds,xs=>∃x r,xs=x::r/\RP d x/\cA ds r
end
noncomputable def RD (m:List Addr):D->V->Prop
 | .p d,v=>RP K F H d v
 | .ref i,v=>∃a,v=.ref a/\m[i]? = some a
noncomputable def dA (m:List Addr):List D->List V->Prop
 | [],xs=>xs=[]
 | d::s,xs=>∃x r,xs=x::r/\RD K F H m d x/\dA m s r
noncomputable def RO (m:List Addr) (a:Addr):SO->Prop
 | .lst d=>∃xs,H a=some (.lst xs)/\dA K F H m d xs
 | .dct s d=>∃k,H a=some (.dK k)/\k.map (·.1)=s/\dA K F H m d (k.map (·.2))
 | .fz v=>RP K F H v (.ref a)
 | .ins c s d=>∃C x k,PySem.W.nsIn K mainGlobals c=some (some (.ref C))/\H a=some (.ins C x k)/\k.map (·.1)=s/\dA K F H m d (k.map (·.2))
 | .dtt s d=>∃k,H a=some (.dT k)/\k.map (·.1)=s/\dA K F H m d (k.map (·.2))
 | .exc c=>∃C,PySem.W.nsIn K mainGlobals c=some (some (.ref C))/\H a=some (.ext (Gu a C))
noncomputable def SO.own:SO->Prop
 | .fz _=>False
 | _=>True
structure Rel (m:List Addr) (S:aJ):Prop where
 len:m.length=S.length
 nd:m.Nodup
 obj:∀(i:Nat) a o,m[i]? = some a->S[i]? = some o->RO K F H m a o
 sep:∀(i:Nat) a o,m[i]? = some a->S[i]? = some o->o.own->¬F a
 trk:∀a ∈ m,H a≠none
 ft:∀a,F a->H a≠none
end
structure Kp (F:Aa) (m:List Addr) (H:Hp) (F':Aa) (m':List Addr) (H':Hp):Prop where
 pre:∃n,m'=m++n
 frz:∀b,F b->F' b
 frk:∀b o,F b->H b=some o->H' b=some o
 tup:∀b xs,H b=some (.tup xs)->H' b=some (.tup xs)
structure Stp (F:Aa) (m:List Addr) (H:Hp) (F':Aa) (m':List Addr) (H':Hp):Prop where
 pre:∃n,m'=m++n
 oth:∀b o,H b=some o->b ∉ m->H' b=some o
 frz:∀b,F b->F' b
 frk:∀b o,F b->H b=some o->H' b=some o
 tup:∀b xs,H b=some (.tup xs)->H' b=some (.tup xs)
 trk:∀b,H b≠none->H' b≠none
 nf:∀b,F' b->F b\/H b=none\/b ∈ m
 nm:∀b,b ∈ m'->b ∈ m\/H b=none
variable {F':Aa}{m:List Addr}{m':List Addr}{H':Hp}
theorem Stp.kp (s:Stp F m H F' m' H'):Kp F m H F' m' H':=⟨s.pre,s.frz,s.frk,s.tup⟩
theorem Stp.refl:Stp F m H F m H:=
 ⟨⟨[],by simp⟩,fun _ _ h _=>h,fun _ h=>h,fun _ _ _ h=>h,fun _ _ h=>h,fun _ h=>h,fun _ h=>.inl h,fun _ h=>.inl h⟩
theorem Stp.trans (a:Stp F m H C k I) (b:Stp C k I B r Y):Stp F m H B r Y where
 pre:=by obtain⟨f,s⟩:=a.pre;obtain⟨t,n⟩:=b.pre;exact⟨f++t,by rw [n,s,List.append_assoc]⟩
 oth:=fun c o h x=>b.oth c o (a.oth c o h x) fun z=>by
  rcases a.nm c z with z | z
  .exact x z
  .rw [h] at z;cases z
 frz:=fun c h=>b.frz c (a.frz c h)
 frk:=fun c o h e=>b.frk c o (a.frz c h) (a.frk c o h e)
 tup:=fun c xs h=>b.tup c xs (a.tup c xs h)
 trk:=fun c h=>b.trk c (a.trk c h)
 nf:=fun c h=>by
  rcases b.nf c h with h | h | h
  .exact a.nf c h
  .by_cases e:H c=none
   .exact .inr (.inl e)
   .exact absurd h (a.trk c e)
  .rcases a.nm c h with h | h
   .exact .inr (.inr h)
   .exact .inr (.inl h)
 nm:=fun c h=>by
  rcases b.nm c h with h | h
  .exact a.nm c h
  .by_cases e:H c=none
   .exact .inr e
   .exact absurd h (a.trk c e)
section
variable {K:FG}{F F':Aa}{H H':Hp}{m m':List Addr}{S O:aJ}
theorem TupAt.kp (s:Kp F m H F' m' H') (h:TupAt K H a xs):TupAt K H' a xs:=by
 rcases h with h | h
 .exact .inl (s.tup _ _ h)
 .exact .inr h
theorem LstAt.kp (s:Kp F m H F' m' H') (h:LstAt F H a xs):LstAt F' H' a xs:=⟨s.frz _ h.1,s.frk _ _ h.1 h.2⟩
theorem xE.kp (s:Kp F m H F' m' H') (h:xE K F H a xs):xE K F' H' a xs:=by
 rcases h with ⟨f,o,h⟩ | h
 .exact .inl ⟨s.frz _ f,o,s.frk _ _ f h⟩
 .exact .inr h
mutual
theorem RP.kp (s:Kp F m H F' m' H'):∀{d:P}{v:V},RP K F H d v->RP K F' H' d v
 | .non,_,h=>h
 | .bl _,_,h=>h
 | .int _,_,h=>h
 | .str _,_,h=>h
 | .tup _,_,h=>by obtain⟨a,xs,e,t,r⟩:=h;exact⟨a,xs,e,t.kp s,cA.kp s r⟩
 | .lst _,_,h=>by obtain⟨a,xs,e,t,r⟩:=h;exact⟨a,xs,e,t.kp s,cA.kp s r⟩
 | .ro _,_,h=>by obtain⟨a,xs,e,t,r⟩:=h;exact⟨a,xs,e,t.kp s,cA.kp s r⟩
 | .dct _ _,_,h=>by obtain⟨a,kvs,e,f,t,k,r⟩:=h;exact⟨a,kvs,e,s.frz _ f,s.frk _ _ f t,k,cA.kp s r⟩
theorem cA.kp (s:Kp F m H F' m' H'):∀{ds:List P}{xs:List V},cA K F H ds xs->cA K F' H' ds xs
 | [],_,h=>h
 | _::_,_,h=>by obtain⟨x,r,e,h1,h2⟩:=h;exact⟨x,r,e,RP.kp s h1,cA.kp s h2⟩
end
theorem RD.kp (s:Kp F m H F' m' H'):∀{d:D}{v:V},RD K F H m d v->RD K F' H' m' d v
 | .p _,_,h=>RP.kp s h
 | .ref i,_,h=>by obtain⟨a,e,h⟩:=h;obtain⟨n,x⟩:=s.pre;refine⟨a,e,?_⟩;rw [x];have k:i < m.length:=(List.getElem?_eq_some_iff.mp h).1;rw [List.getElem?_append_left k];exact h
theorem dA.kp (s:Kp F m H F' m' H'):∀{d:List D}{xs:List V},dA K F H m d xs->dA K F' H' m' d xs
 | [],_,h=>h
 | _::_,_,h=>by obtain⟨x,r,e,a,n⟩:=h;exact⟨x,r,e,RD.kp s a,dA.kp s n⟩
variable {d:P}{v:V}
theorem RP.mono (s:Stp F m H F' m' H') (h:RP K F H d v):RP K F' H' d v:=RP.kp s.kp h
theorem cA.mono (s:Stp F m H F' m' H') {d:List P}{v:List V} (h:cA K F H d v):cA K F' H' d v:=cA.kp s.kp h
theorem RD.mono (s:Stp F m H F' m' H') {d:D}{v:V} (h:RD K F H m d v):RD K F' H' m' d v:=RD.kp s.kp h
theorem dA.mono (s:Stp F m H F' m' H') {d:List D}{v:List V} (h:dA K F H m d v):dA K F' H' m' d v:=dA.kp s.kp h
theorem cA.length:∀{d:List P}{xs:List V},cA K F H d xs->d.length=xs.length
 | [],_,h=>by rw [show _=([]:List V) from h] <;> rfl
 | _::_,_,h=>by obtain⟨x,r,e,_,a⟩:=h;rw [e,bx,bx,cA.length a]
theorem dA.length:∀{d:List D}{xs:List V},dA K F H m d xs->d.length=xs.length
 | [],_,h=>by rw [show _=([]:List V) from h] <;> rfl
 | _::_,_,h=>by obtain⟨x,r,e,_,a⟩:=h;rw [e,bx,bx,dA.length a]
theorem cA.get:∀{s:List P}{xs:List V}{i:Nat}{d:P},cA K F H s xs->s[i]? = some d->∃x,xs[i]? = some x/\RP K F H d x
 | [],_,_,_,_,e=>by simp at e
 | _::_,_,0,_,h,e=>by obtain⟨x,r,rfl,n,_⟩:=h;simp at e;subst e;exact⟨x,rfl,n⟩
 | _::_,_,i+1,d,h,e=>by obtain⟨x,r,rfl,_,k⟩:=h;obtain⟨y,a,f⟩:=cA.get (i:=i) k (by simpa using e);exact⟨y,by simpa using a,f⟩
theorem cA.append:∀{d T:List P}{xs y:List V},cA K F H d xs->cA K F H T y->cA K F H (d++T) (xs++y)
 | [],_,_,_,h,g=>by rw [show _=([]:List V) from h];exact g
 | _::_,_,_,_,h,g=>by obtain⟨x,r,rfl,a,e⟩:=h;exact⟨x,r++_,rfl,a,cA.append e g⟩
theorem dA.append:∀{d T:List D}{xs y:List V},dA K F H m d xs->dA K F H m T y->dA K F H m (d++T) (xs++y)
 | [],_,_,_,h,g=>by rw [show _=([]:List V) from h];exact g
 | _::_,_,_,_,h,g=>by obtain⟨x,r,rfl,a,e⟩:=h;exact⟨x,r++_,rfl,a,dA.append e g⟩
theorem cA.take:∀(n:Nat) {d:List P}{xs:List V},cA K F H d xs->cA K F H (d.take n) (xs.take n)
 | 0,_,_,_=>rfl
 | _+1,[],_,h=>by rw [show _=([]:List V) from h];rfl
 | n+1,_::_,_,h=>by obtain⟨x,r,rfl,a,e⟩:=h;exact⟨x,r.take n,rfl,a,cA.take n e⟩
theorem cA.drop:∀(n:Nat) {d:List P}{xs:List V},cA K F H d xs->cA K F H (d.drop n) (xs.drop n)
 | 0,_,_,h=>h
 | _+1,[],_,h=>by rw [show _=([]:List V) from h];rfl
 | n+1,_::_,_,h=>by obtain⟨x,r,rfl,_,a⟩:=h;exact cA.drop n a
theorem dA.take:∀(n:Nat) {d:List D}{xs:List V},dA K F H m d xs->dA K F H m (d.take n) (xs.take n)
 | 0,_,_,_=>rfl
 | _+1,[],_,h=>by rw [show _=([]:List V) from h];rfl
 | n+1,_::_,_,h=>by obtain⟨x,r,rfl,a,e⟩:=h;exact⟨x,r.take n,rfl,a,dA.take n e⟩
theorem dA.get:∀{s:List D}{xs:List V}{i:Nat}{d:D},dA K F H m s xs->s[i]? = some d->∃x,xs[i]? = some x/\RD K F H m d x
 | [],_,_,_,_,e=>by simp at e
 | _::_,_,0,_,h,e=>by obtain⟨x,r,rfl,n,_⟩:=h;simp at e;subst e;exact⟨x,rfl,n⟩
 | _::_,_,i+1,d,h,e=>by obtain⟨x,r,rfl,_,k⟩:=h;obtain⟨y,a,f⟩:=dA.get (i:=i) k (by simpa using e);exact⟨y,by simpa using a,f⟩
theorem dA.ofP:∀{d:List P}{xs:List V},cA K F H d xs->dA K F H m (d.map .p) xs
 | [],_,h=>h
 | _::_,_,h=>by obtain⟨x,r,e,a,s⟩:=h;exact⟨x,r,e,a,dA.ofP s⟩
variable {p:Addr}
theorem Rel.fresh_m (r:Rel K F H m S) (h:H p=none):p ∉ m:=fun z=>r.trk p z h
theorem Rel.fresh_F (r:Rel K F H m S) (h:H p=none):¬F p:=fun z=>r.ft p z h
variable {o:HO}
theorem iz (x:H p=none):Stp F m H F m (cm H p o) where
 pre:=⟨[],by simp⟩
 oth:=fun b u h _=>by rw [aE (by rintro rfl;rw [x] at h;cases h)];exact h
 frz:=fun _ h=>h
 frk:=fun b u _ h=>by rw [aE (by rintro rfl;rw [x] at h;cases h)];exact h
 tup:=fun b u h=>by rw [aE (by rintro rfl;rw [x] at h;cases h)];exact h
 trk:=fun b h=>by
  by_cases e:b=p
  .subst e;rw [aN];exact fun z=>nomatch z
  .rw [aE e];exact h
 nf:=fun _ h=>.inl h
 nm:=fun _ h=>.inl h
theorem RO.kp (s:Kp F m H F' m' H') {a:Addr}{o:SO} (k:∀u,H a=some u->H' a=some u) (h:RO K F H m a o):RO K F' H' m' a o:=by
 cases o with
 | lst d=>obtain⟨xs,e,r⟩:=h;exact⟨xs,k _ e,dA.kp s r⟩
 | dct b d=>obtain⟨x,e,f,r⟩:=h;exact⟨x,k _ e,f,dA.kp s r⟩
 | fz v=>exact RP.kp s (show RP K F H v (.ref a) from h)
 | ins c b d=>obtain⟨C,t,x,n,e,f,r⟩:=h;exact⟨C,t,x,n,k _ e,f,dA.kp s r⟩
 | dtt b d=>obtain⟨x,e,f,r⟩:=h;exact⟨x,k _ e,f,dA.kp s r⟩
 | exc c=>obtain⟨C,n,e⟩:=h;exact⟨C,n,k _ e⟩
theorem RO.mono (s:Stp F m H F' m' H') {a:Addr}{o:SO} (k:∀u,H a=some u->H' a=some u) (h:RO K F H m a o):RO K F' H' m' a o:=RO.kp s.kp k h
theorem Rel.stayK (r:Rel K F H m S) (s:Kp F m H F' m H') (k:∀a u,a ∈ m->H a=some u->H' a=some u) (n:∀a,F' a->F a\/H a=none) (t:∀a,F' a->H' a≠none):Rel K F' H' m S where
 len:=r.len
 nd:=r.nd
 obj:=fun i a o e x=>(r.obj i a o e x).kp s fun u h=>k a u (bA e) h
 sep:=fun i a o e x w f=>by
  rcases n a f with f | f
  .exact r.sep i a o e x w f
  .exact r.trk a (bA e) f
 trk:=fun a h=>by
  cases q:H a with
  | none=>exact absurd q (r.trk a h)
  | some u=>rw [k a u h q];exact fun z=>nomatch z
 ft:=t
theorem Rel.stay (r:Rel K F H m S) (s:Stp F m H F' m H') (k:∀a u,a ∈ m->H a=some u->H' a=some u) (n:∀a,F' a->F a\/H a=none) (t:∀a,F' a->H' a≠none):Rel K F' H' m S where
 len:=r.len
 nd:=r.nd
 obj:=fun i a o e x=>(r.obj i a o e x).mono s fun u h=>k a u (bA e) h
 sep:=fun i a o e x w f=>by
  rcases n a f with f | f
  .exact r.sep i a o e x w f
  .exact r.trk a (bA e) f
 trk:=fun a h=>s.trk a (r.trk a h)
 ft:=t
theorem Rel.new (r:Rel K F H m S) (x:H p=none):Rel K F (cm H p o) m S:=
 r.stay (iz x) (fun a u e h=>by rw [aE (by rintro rfl;exact r.fresh_m x e)];exact h) (fun _ f=>.inl f) fun a f=>(iz (F:=F) (m:=m) x).trk a (r.ft a f)
theorem gq {p:Addr}{o:HO} (x:H p=none):Stp F m H F (m++[p]) (cm H p o) where
 pre:=⟨[p],rfl⟩
 oth:=(iz (F:=F) (m:=m) (o:=o) x).oth
 frz:=fun _ h=>h
 frk:=(iz (F:=F) (m:=m) (o:=o) x).frk
 tup:=(iz (F:=F) (m:=m) (o:=o) x).tup
 trk:=(iz (F:=F) (m:=m) (o:=o) x).trk
 nf:=fun _ h=>.inl h
 nm:=fun b h=>by
  rcases dL.mp h with h | h
  .exact .inl h
  .have:b=p:=by simpa using h
   subst this;exact .inr x
theorem Rel.own (r:Rel K F H m S) {p:Addr}{o:HO}{c:SO} (n:H p=none) (v:RO K F (cm H p o) (m++[p]) p c):Rel K F (cm H p o) (m++[p]) (S++[c]) where
 len:=by rw [cO,cO,r.len];rfl
 nd:=by
  rw [List.nodup_append];refine⟨r.nd,by simp,fun a t b q e=>?_⟩;have:b=p:=by simpa using q
  subst this;subst e;exact r.fresh_m n t
 obj:=fun i a u x s=>by
  by_cases k:i < m.length
  .rw [List.getElem?_append_left k] at x;rw [List.getElem?_append_left (by rw [<- r.len];exact k)] at s;exact (r.obj i a u x s).mono (gq n) fun w h=>by rw [aE (by rintro rfl;rw [n] at h;cases h)];exact h
  .have l:i=m.length:=by
    have:=(List.getElem?_eq_some_iff.mp x).1;rw [cO] at this;simp at this;lia
   subst l;rw [fZ (Nat.le_refl _)] at x;rw [r.len,fZ (Nat.le_refl _)] at s;simp at x s;subst x;subst s;exact v
 sep:=fun i a u x s w f=>by
  by_cases k:i < m.length
  .rw [List.getElem?_append_left k] at x;rw [List.getElem?_append_left (by rw [<- r.len];exact k)] at s;exact r.sep i a u x s w f
  .have l:i=m.length:=by
    have:=(List.getElem?_eq_some_iff.mp x).1;rw [cO] at this;simp at this;lia
   subst l;rw [fZ (Nat.le_refl _)] at x;simp at x;subst x;exact r.fresh_F n f
 trk:=fun a h=>by
  rcases dL.mp h with h | h
  .exact (gq (F:=F) (m:=m) n).trk a (r.trk a h)
  .have:a=p:=by simpa using h
   subst this;rw [aN];exact fun z=>nomatch z
 ft:=fun a f=>(gq (F:=F) (m:=m) n).trk a (r.ft a f)
variable {i:Nat}
theorem fK (r:Rel K F H m S) (x:m[i]? = some p) (s:S[i]? = some k) (hw:k.own) (t:∀xs,H p≠some (.tup xs)):Stp F m H F m (cm H p o) where
 pre:=⟨[],by simp⟩
 oth:=fun b u h a=>by rw [aE (by rintro rfl;exact a (bA x))];exact h
 frz:=fun _ h=>h
 frk:=fun b u f h=>by rw [aE (by rintro rfl;exact r.sep i _ k x s hw f)];exact h
 tup:=fun b xs h=>by rw [aE (by rintro rfl;exact t xs h)];exact h
 trk:=fun b h=>by
  by_cases e:b=p
  .subst e;rw [aN];exact fun z=>nomatch z
  .rw [aE e];exact h
 nf:=fun _ h=>.inl h
 nm:=fun _ h=>.inl h
theorem sw (h:m.Nodup) (e:m[i]? = some a) (x:m[k]? = some a):i=k:=by exact (List.getElem?_inj (List.getElem?_eq_some_iff.mp e).1 h).mp (e.trans x.symm)
theorem Rel.set (r:Rel K F H m S) {i:Nat}{p:Addr}{c b:SO}{o:HO} (s:m[i]? = some p) (k:S[i]? = some c) (hw:c.own) (t:∀xs,H p≠some (.tup xs)) (q:RO K F (cm H p o) m p b) :
  Rel K F (cm H p o) m (S.set i b) where
 len:=by rw [fq];exact r.len
 nd:=r.nd
 obj:=fun j a u e x=>by
  by_cases n:i=j
  .subst n;rw [s] at e;cases e;rw [cL (by exact (List.getElem?_eq_some_iff.mp k).1)] at x;cases x;exact q
  .rw [bt n] at x;exact (r.obj j a u e x).mono (fK r s k hw t) fun w h=>by rw [aE (by rintro rfl;exact n (sw r.nd s e))];exact h
 sep:=fun j a u e x w f=>by
  by_cases n:i=j
  .subst n;rw [s] at e;cases e;exact r.sep i p c s k hw f
  .rw [bt n] at x;exact r.sep j a u e x w f
 trk:=fun a h=>(fK (o:=o) r s k hw t).trk a (r.trk a h)
 ft:=fun a f=>(fK (o:=o) r s k hw t).trk a (r.ft a f)
theorem qk (x:p ∈ m):Stp F m H (fun b=>F b\/b=p) m H:=
 ⟨⟨[],by simp⟩,fun _ _ h _=>h,fun _ h=>.inl h,fun _ _ _ h=>h,fun _ _ h=>h,fun _ h=>h,fun b h=>by
  rcases h with h | h
  .exact .inl h
  .subst h;exact .inr (.inr x),fun _ h=>.inl h⟩
theorem Rel.frz (r:Rel K F H m S) {i:Nat}{p:Addr}{c:SO}{v:P} (n:m[i]? = some p) (k:S[i]? = some c) (o:RP K (fun b=>F b\/b=p) H v (.ref p)):Rel K (fun b=>F b\/b=p) H m (S.set i (.fz v)) where
 len:=by rw [fq];exact r.len
 nd:=r.nd
 obj:=fun j a u x e=>by
  by_cases s:i=j
  .subst s;rw [n] at x;cases x;rw [cL (by exact (List.getElem?_eq_some_iff.mp k).1)] at e;cases e;exact o
  .rw [bt s] at e;exact (r.obj j a u x e).mono (qk (bA n)) fun w h=>h
 sep:=fun j a u x e w f=>by
  by_cases s:i=j
  .subst s;rw [cL (by exact (List.getElem?_eq_some_iff.mp k).1)] at e;cases e;exact w
  .rw [bt s] at e;rcases f with f | f
   .exact r.sep j a u x e w f
   .subst f;exact s (sw r.nd n x)
 trk:=r.trk
 ft:=fun a f=>by
  rcases f with f | f
  .exact r.ft a f
  .subst f;exact r.trk _ (bA n)
end
noncomputable abbrev EE:=Lc->aJ->Option (D×aJ)
noncomputable abbrev EV:=Lc->aJ->Option (P×aJ)
noncomputable abbrev EB:=Lc->aJ->Option (Bool×aJ)
noncomputable abbrev gj:=Lc->aJ->Option (List P×aJ)
inductive Fl where
 | nx | rt (d:D) | bk | ct
noncomputable abbrev ES:=Lc->aJ->Option (Fl×Lc×aJ)
variable {q:Type}{β:Type}
noncomputable def aL (x:Option (q×aJ)) (f:q->aJ->Option β):Option β:=match x with
 | some (a,S)=>f a S
 | none=>none
@[simp] theorem aD (a:q) (S:aJ) (f:q->aJ->Option β):aL (some (a,S)) f=f a S:=rfl
@[simp] theorem G7 (f:q->aJ->Option β):aL none f=none:=rfl
theorem ai {q β:Type}{x:Option (q×aJ)}{f:q->aJ->Option β}{r:β} (h:aL x f=some r):∃a S,x=some (a,S)/\f a S=some r:=by
 cases x with
 | none=>cases h
 | some p=>exact⟨p.1,p.2,rfl,h⟩
noncomputable def qD (f:D->aJ->Option (P×aJ)):List D->aJ->Option (List P×aJ)
 | [],S=>some ([],S)
 | d::r,S=>aL (f d S) fun v h=>aL (qD f r h) fun U x=>some (v::U,x)
noncomputable def toP:Nat->D->aJ->Option (P×aJ)
 | _,.p v,S=>some (v,S)
 | 0,.ref _,_=>none
 | n+1,.ref i,S=>match S[i]? with
  | some (.lst d)=>aL (qD (toP n) d S) fun U h=>some (.lst U,h.set i (.fz (.lst U)))
  | some (.dct k d)=>aL (qD (toP n) d S) fun U h=>some (.dct k U,h.set i (.fz (.dct k U)))
  | some (.fz v)=>some (v,S)
  | some (.ins _ _ _)=>none
  | some (.exc _)=>none
  | some (.dtt _ _)=>none
  | none=>none
@[simp] theorem Fa (n:Nat) (v:P) (S:aJ):toP n (.p v) S=some (v,S):=by cases n <;> rfl
theorem kA (n:Nat):∀(U:List P) (S:aJ),qD (toP n) (U.map .p) S=some (U,S)
 | [],_=>rfl
 | v::r,S=>by simp [qD,kA n r S]
variable {n:Nat}{S:aJ}{U:List P}
theorem eB (h:S[i]? = some (.lst (U.map .p))):toP (n+1) (.ref i) S=some (.lst U,S.set i (.fz (.lst U))):=by simp [toP,h,kA]
section
variable {K:FG}{F:Aa}{H:Hp}{m:List Addr}{S O:aJ}
theorem qC 
  (n:∀{d:D}{x:V}{v:P}{F:Aa}{S O:aJ},f d S=some (v,O)->Rel K F H m S->RD K F H m d x->∃F',Stp F m H F' m H/\Rel K F' H m O/\O.length=S.length/\RP K F' H v x) :
  ∀{s:List D}{xs:List V}{U:List P}{F:Aa}{S O:aJ},qD f s S=some (U,O)->Rel K F H m S->dA K F H m s xs->∃F',Stp F m H F' m H/\Rel K F' H m O/\O.length=S.length/\cA K F' H U xs
 | [],xs,U,F,S,O,h,r,a=>by cases h;exact⟨F,.refl,r,rfl,a⟩
 | d::s,xs,U,F,S,O,h,r,a=>by obtain⟨x,y,e,p,q⟩:=a;obtain⟨v,z,c,h⟩:=ai h;obtain⟨A,o,t,h⟩:=ai h;cases h;obtain⟨C,k,i,l,u⟩:=n c r p;obtain⟨B,b,j,w,g⟩:=qC n t i (dA.mono k q);exact⟨B,k.trans b,j,w.trans l,x,y,e,RP.mono b u,g⟩
theorem nc:∀(n:Nat) {d:D}{x:V}{v:P}{F:Aa}{S O:aJ},toP n d S=some (v,O)->Rel K F H m S->RD K F H m d x->∃F',Stp F m H F' m H/\Rel K F' H m O/\O.length=S.length/\RP K F' H v x
 | n,.p w,x,v,F,S,O,h,r,u=>by rw [Fa] at h;cases h;exact⟨F,.refl,r,rfl,u⟩
 | 0,.ref i,x,v,F,S,O,h,r,u=>by cases h
 | n+1,.ref i,x,v,F,S,O,h,r,u=>by
  obtain⟨a,e,f⟩:=u;subst e;have p:i < S.length:=by rw [<- r.len];exact (List.getElem?_eq_some_iff.mp f).1
  obtain⟨o,J⟩:∃o,S[i]? = some o:=⟨S[i],by simp [p]⟩;have z:=r.obj i a o f J;simp only [toP,J] at h;cases o with
  | fz w=>cases h;exact⟨F,.refl,r,rfl,z⟩
  | ins c L I=>cases h
  | exc c=>cases h
  | dtt _ _=>cases h
  | lst I=>obtain⟨U,t,g,h⟩:=ai h;cases h;obtain⟨xs,j,E⟩:=z;obtain⟨C,G,B,k,A⟩:=qC (fun h=>nc n h) g r E;obtain⟨N,s⟩:∃o,t[i]? = some o:=⟨t[i]'(by rw [k];exact p),by simp [k,p]⟩;have l:Stp C m H (fun b=>C b\/b=a) m H:=qk (bA f);have q:RP K (fun b=>C b\/b=a) H (.lst U) (.ref a):=⟨a,xs,rfl,⟨.inr rfl,j⟩,cA.mono l A⟩;exact⟨_,G.trans l,B.frz f s q,by rw [fq];exact k,q⟩
  | dct L I=>obtain⟨U,t,g,h⟩:=ai h;cases h;obtain⟨y,j,M,E⟩:=z;obtain⟨C,G,B,k,A⟩:=qC (fun h=>nc n h) g r E;obtain⟨N,s⟩:∃o,t[i]? = some o:=⟨t[i]'(by rw [k];exact p),by simp [k,p]⟩;have l:Stp C m H (fun b=>C b\/b=a) m H:=qk (bA f);have q:RP K (fun b=>C b\/b=a) H (.dct L U) (.ref a):=⟨a,y,rfl,.inr rfl,j,M,cA.mono l A⟩;exact⟨_,G.trans l,B.frz f s q,by rw [fq];exact k,q⟩
end
structure Grow (F:Aa) (H:Hp) (F':Aa) (H':Hp):Prop where
 keep:∀b o,H b=some o->H' b=some o
 frz:∀b,F b->F' b
 nf:∀b,F' b->F b\/(H b=none/\H' b≠none)
section
variable {K:FG}{F F' C B:Aa}{H H' I Y:Hp}{m:List Addr}{S O:aJ}
theorem Grow.refl:Grow F H F H:=⟨fun _ _ h=>h,fun _ h=>h,fun _ h=>.inl h⟩
theorem Grow.stp (g:Grow F H F' H'):Stp F m H F' m H' where
 pre:=⟨[],by simp⟩
 oth:=fun b o h _=>g.keep b o h
 frz:=g.frz
 frk:=fun b o _ h=>g.keep b o h
 tup:=fun b xs h=>g.keep b _ h
 trk:=fun b h=>by
  cases q:H b with
  | none=>exact absurd q h
  | some o=>rw [g.keep b o q];exact fun z=>nomatch z
 nf:=fun b h=>by
  rcases g.nf b h with h | ⟨h,_⟩
  .exact .inl h
  .exact .inr (.inl h)
 nm:=fun _ h=>.inl h
theorem Rel.grow (r:Rel K F H m S) (g:Grow F H F' H'):Rel K F' H' m S:=
 r.stay g.stp (fun a u _ h=>g.keep a u h) (fun a f=>by
  rcases g.nf a f with f | ⟨f,_⟩
  .exact .inl f
  .exact .inr f) fun a f=>by
  rcases g.nf a f with f | ⟨_,f⟩
  .exact (g.stp (m:=m)).trk a (r.ft a f)
  .exact f
theorem cc {p:Addr}{o:HO} (x:H p=none):Grow F H F (cm H p o):=
 ⟨fun b u h=>by rw [aE (by rintro rfl;rw [x] at h;cases h)];exact h,fun _ h=>h,fun _ h=>.inl h⟩
theorem cx {p:Addr}{o:HO} (x:H p=none):Grow F H (fun b=>F b\/b=p) (cm H p o):=
 ⟨fun b u h=>by rw [aE (by rintro rfl;rw [x] at h;cases h)];exact h,fun _ h=>.inl h,fun b h=>by
  rcases h with h | h
  .exact .inl h
  .subst h;exact .inr ⟨x,by rw [aN];exact fun z=>nomatch z⟩⟩
theorem RP.grow (g:Grow F H F' H') (h:RP K F H d v):RP K F' H' d v:=RP.mono (m:=[]) g.stp h
theorem cA.grow (g:Grow F H F' H') (h:cA K F H d v):cA K F' H' d v:=cA.mono (m:=[]) g.stp h
theorem RP.newTup (x:H p=none) (r:cA K F H h xs):RP K F (cm H p (.tup xs)) (.tup h) (.ref p):=⟨p,xs,rfl,.inl aN,r.grow (cc x)⟩
theorem RP.newLst (x:H p=none) (r:cA K F H h xs):RP K (fun b=>F b\/b=p) (cm H p (.lst xs)) (.lst h) (.ref p):=⟨p,xs,rfl,⟨.inr rfl,aN⟩,r.grow (cx x)⟩
end
noncomputable def vC (v:P):EV:=fun _ S=>some (v,S)
noncomputable def aa (i:Nat):EE:=fun L S=>match L[i]? with
 | some (some d)=>some (d,S)
 | _=>none
noncomputable def vE (f:EE):EV:=fun L S=>aL (f L S) (toP 9)
noncomputable def eV (f:EV):EE:=fun L S=>aL (f L S) fun v h=>some (.p v,h)
noncomputable def ab (g:P->P->Option P) (a b:EV):EV:=fun L S=>aL (a L S) fun x h=>aL (b L h) fun y e=>(g x y).map fun v=>(v,e)
noncomputable def Cs (g:P->Option P) (a:EV):EV:=fun L S=>aL (a L S) fun x h=>(g x).map fun v=>(v,h)
noncomputable def bV (a:EV):EB:=fun L S=>aL (a L S) fun x h=>match x with
 | .bl b=>some (b,h)
 | _=>none
noncomputable def gX (a b:EB):EB:=fun L S=>aL (a L S) fun c h=>if c=true then b L h else some (false,h)
noncomputable def wq (a b:EB):EB:=fun L S=>aL (a L S) fun c h=>if c=true then some (true,h) else b L h
noncomputable def mw (a:EB):EB:=fun L S=>aL (a L S) fun c h=>some (!c,h)
noncomputable def vB (a:EB):EV:=fun L S=>aL (a L S) fun c h=>some (.bl c,h)
noncomputable def BJ (c:EB) (a b:EV):EV:=fun L S=>aL (c L S) fun k h=>if k=true then a L h else b L h
noncomputable def aS:gj:=fun _ S=>some ([],S)
noncomputable def aR (a:EV) (r:gj):gj:=fun L S=>aL (a L S) fun x h=>aL (r L h) fun xs e=>some (x::xs,e)
noncomputable def af (g:List P->Option P) (a:gj):EV:=fun L S=>aL (a L S) fun xs h=>(g xs).map fun v=>(v,h)
noncomputable def eW:ES:=fun L S=>some (.nx,L,S)
noncomputable def ae (f g:ES):ES:=fun L S=>match f L S with
 | some (.nx,h,x)=>g h x
 | r=>r
noncomputable def ao (i:Nat) (f:EE):ES:=fun L S=>aL (f L S) fun d h=>some (.nx,L.set i (some d),h)
noncomputable def aO (f:EE):ES:=fun L S=>aL (f L S) fun d h=>some (.rt d,L,h)
noncomputable def bL (f:EE):ES:=fun L S=>aL (f L S) fun _ h=>some (.nx,L,h)
noncomputable def eO (c:EB) (a b:ES):ES:=fun L S=>aL (c L S) fun k h=>if k=true then a L h else b L h
noncomputable def CM:ES:=fun _ _=>none
noncomputable abbrev iY:=P->Lc->Option Lc
noncomputable def ag (i:Nat):iY:=fun v L=>some (L.set i (some (.p v)))
noncomputable def aZ (g:iY) (b:ES):List P->Lc->aJ->Option (Fl×Lc×aJ)
 | [],L,S=>some (.nx,L,S)
 | v::r,L,S=>match g v L with
  | none=>none
  | some a=>match b a S with
   | some (.nx,L2,h)=>aZ g b r L2 h
   | some (.ct,L2,h)=>aZ g b r L2 h
   | some (.bk,L2,h)=>some (.nx,L2,h)
   | x=>x
noncomputable def cb (i:gj) (g:iY) (b:ES):ES:=fun L S=>aL (i L S) fun xs h=>aZ g b xs L h
open PySem PySem.Spec PyProof.Rows L2
section
variable (K:FG)
structure RL (F:Aa) (H:Hp) (m:List Addr) (σ:L2.St) (L:Lc):Prop where
 len:σ.length=L.length
 at':∀(i:Nat) d,L[i]? = some (some d)->∃v,σ[i]? = some (some v)/\RD K F H m d v
inductive tEI (f:EE) (σ:L2.St) (H:Hp) (Q:VK):Prop
 | mk (F:Aa) (m:List Addr) (L:Lc) (S:aJ) (d:D) (S':aJ) (h0_:Rel K F H m S) (h1_:RL K F H m σ L) (h2_:f L S=some (d,S')) (h3_:∀v F' m' H',Stp F m H F' m' H'->Rel K F' H' m' S'->RD K F' H' m' d v->Q v H'):tEI f σ H Q
noncomputable def tE (f:EE):TE:=fun M H Q=>tEI K f M H Q
inductive tVI (f:EV) (σ:L2.St) (H:Hp) (Q:VK):Prop
 | mk (F:Aa) (m:List Addr) (L:Lc) (S:aJ) (d:P) (S':aJ) (h0_:Rel K F H m S) (h1_:RL K F H m σ L) (h2_:f L S=some (d,S')) (h3_:∀v F' m' H',Stp F m H F' m' H'->Rel K F' H' m' S'->RP K F' H' d v->Q v H'):tVI f σ H Q
noncomputable def tV (f:EV):TE:=fun M H Q=>tVI K f M H Q
inductive tQI (f:EB) (σ:L2.St) (H:Hp) (Q:Bool->Hp->Prop):Prop
 | mk (F:Aa) (m:List Addr) (L:Lc) (S:aJ) (b:Bool) (S':aJ) (h0_:Rel K F H m S) (h1_:RL K F H m σ L) (h2_:f L S=some (b,S')) (h3_:∀F' m' H',Stp F m H F' m' H'->Rel K F' H' m' S'->Q b H'):tQI f σ H Q
noncomputable def tQ (f:EB):TT:=fun M H Q=>tQI K f M H Q
inductive tVsI (f:gj) (σ:L2.St) (H:Hp) (Q:List V->Hp->Prop):Prop
 | mk (F:Aa) (m:List Addr) (L:Lc) (S:aJ) (ds:List P) (S':aJ) (h0_:Rel K F H m S) (h1_:RL K F H m σ L) (h2_:f L S=some (ds,S')) (h3_:∀xs F' m' H',Stp F m H F' m' H'->Rel K F' H' m' S'->cA K F' H' ds xs->Q xs H'):tVsI f σ H Q
noncomputable def nZ (f:gj):TA:=fun M H Q=>tVsI K f M H Q
noncomputable def I_ (D:Ends) (F:Aa) (m:List Addr) (M:L2.St) (H:Hp):Fl->Prop
 | .nx=>D.nx M H
 | .bk=>D.bk M H
 | .ct=>D.ct M H
 | .rt d=>∀v,RD K F H m d v->D.rt v H
inductive tStI (f:ES) (D:Ends) (σ:L2.St) (H:Hp):Prop
 | mk (F:Aa) (m:List Addr) (L:Lc) (S:aJ) (fl:Fl) (L':Lc) (S':aJ) (h0_:Rel K F H m S) (h1_:RL K F H m σ L) (h2_:f L S=some (fl,L',S')) (h3_:∀σ' F' m' H',Stp F m H F' m' H'->Rel K F' H' m' S'->RL K F' H' m' σ' L'->I_ K D F' m' σ' H' fl):tStI f D σ H
noncomputable def kP (f:ES):TS:=fun D M H=>tStI K f D M H
end
section
variable {K:FG}{F F':Aa}{H H':Hp}{m m':List Addr}{M:L2.St}{L:Lc}{S:aJ}
theorem RL.mono (s:Stp F m H F' m' H') (h:RL K F H m M L):RL K F' H' m' M L:=⟨h.len,fun i d e=>by obtain⟨v,x,r⟩:=h.at' i d e;exact⟨v,x,RD.mono s r⟩⟩
theorem RL.set (h:RL K F H m M L) (r:RD K F H m d v) (i:Nat):RL K F H m (M.set i (some v)) (L.set i (some d)):=⟨by rw [fq,fq];exact h.len,fun j e q=>by
 by_cases x:i=j
 .subst x;by_cases a:i < L.length
  .rw [cL a] at q;cases q;exact⟨v,cL (by rw [h.len];exact a),r⟩
  .rw [List.getElem?_eq_none (by rw [fq];lia)] at q;cases q
 .rw [bt x] at q;rw [bt x];exact h.at' j e q⟩
end
section
variable {X:Cx}{e:Expr}{T:Ab}{l:Stmt}{sts:List Stmt}
theorem _root_.L2.PE.imp' (h:PE X e t) (i:∀M H Q,k M H Q->t M H Q):PE X e k:=fun p s M H Q I q=>h p s M H Q I (i M H Q q)
theorem _root_.L2.PT.imp' (h:PT X e t) (i:∀M H Q,k M H Q->t M H Q):PT X e k:=fun p s M H Q I q=>h p s M H Q I (i M H Q q)
theorem _root_.L2.PW.imp' (h:PW X e t) (i:∀M H Q,k M H Q->t M H Q):PW X e k:=fun w p s M H Q I q=>h w p s M H Q I (i M H Q q)
theorem _root_.L2.PA.imp' (h:PA X T t) (i:∀M H Q,k M H Q->t M H Q):PA X T k:=fun N p s M H Q I q=>h N p s M H Q I (i M H Q q)
theorem _root_.L2.PS.imp' (h:PS X l t) (i:∀D M H,k D M H->t D M H):PS X l k:=fun p s M H D I q=>h p s M H D I (i D M H q)
theorem _root_.L2.mx.imp' (h:mx X sts t) (i:∀D M H,k D M H->t D M H):mx X sts k:=fun p s M H D I q=>h p s M H D I (i D M H q)
end
section
variable {X:Cx}{a b c e:Expr}{T:Ab}{y Q:EV}{fe:EE}{N:Pos}
theorem Iv (h:PE X e (tE X.K fe)):PE X e (tV X.K (vE fe)):=h.imp' fun M H Q z=>by obtain⟨F,m,L,S,d,O,r,l,q,k⟩:=z;obtain⟨a,x,n,f⟩:=ai q;refine⟨F,m,L,S,a,x,r,l,n,fun v F' m' H' s b t=>?_⟩;obtain⟨B,w,c,_,p⟩:=nc 9 f b t;exact k v B m' H' (s.trans w) c p
theorem Eh (h:PE X e (tV X.K y)):PE X e (tE X.K (eV y)):=h.imp' fun M H Q z=>by obtain⟨F,m,L,S,d,O,r,l,q,k⟩:=z;obtain⟨x,c,a,n⟩:=ai q;cases n;exact⟨F,m,L,S,x,O,r,l,a,fun v F' m' H' s f b=>k v F' m' H' s f b⟩
theorem Iu (i:Nat) (s:X.N[i]? = some x:=by rfl) (n:Ed X.env.scope x:=by first | exact Or.inl rfl | exact Or.inr (Or.inl rfl) | exact Or.inr (Or.inr rfl)) (hd:(x == ("__debug__":Str))=false:=by decide)
  (h:(x == ("__classdict__":Str))=false:=by decide):PE X (.Name x N) (tE X.K (aa i)):=(yA s n hd h).imp' fun M H Q z=>by
 obtain⟨F,m,L,S,d,O,r,l,q,k⟩:=z;unfold aa at q;split at q
 .rename_i b e;cases q;obtain⟨v,a,f⟩:=l.at' i _ e;exact⟨v,a,k v F m H .refl r f⟩
 .cases q
theorem xC (h:PE X e (tC v)) (r:∀F H,RP X.K F H d v):PE X e (tV X.K (vC d)):=h.imp' fun M H Q z=>by obtain⟨F,m,L,S,a,O,x,l,q,k⟩:=z;cases q;exact k v F m H .refl x (r F H)
theorem IG {i h N}:PE X (.Constant (.int i) h N) (tV X.K (vC (.int i))):=xC C8 fun _ _=>rfl
theorem Ky {i h N}:PE X (.Constant (.bool i) h N) (tV X.K (vC (.bl i))):=xC FK fun _ _=>rfl
theorem IA {h N}:PE X (.Constant .none h N) (tV X.K (vC .non)):=xC C7 fun _ _=>rfl
theorem Ix {i h N}:PE X (.Constant (.str i) h N) (tV X.K (vC (.str i))):=xC C4 fun _ _=>rfl
inductive rPI (K:FG) (g:P->P->Option P) (x:V) (y:V) (H:Hp) (Q:VK):Prop
 | mk (F:Aa) (dx:P) (dy:P) (d:P) (h0_:(∀a,F a->H a≠none)) (h1_:RP K F H dx x) (h2_:RP K F H dy y) (h3_:g dx dy=some d) (h4_:∀v F' H',Grow F H F' H'->RP K F' H' d v->Q v H'):rPI K g x y H Q
noncomputable def rP (K:FG) (g:P->P->Option P):R2:=fun x y H Q=>rPI K g x y H Q
noncomputable def my (X:Cx) (f:Value->Value->Sem Value) (g:P->P->Option P):Prop:=ik X f (rP X.K g)
theorem qg (h:tV X.K (ab g y Q) M H t):CB (rP X.K g) (tV X.K y) (tV X.K Q) M H t:=by
 obtain⟨F,m,L,S,d,O,r,l,q,k⟩:=h;obtain⟨x,s,o,q⟩:=ai q;obtain⟨a,j,K,q⟩:=ai q;refine⟨F,m,L,S,x,s,r,l,o,fun v C P I b J D=>?_⟩;refine⟨C,P,L,s,a,j,J,l.mono b,K,fun u B A Y c f E=>?_⟩;cases e:g x a with
 | none=>rw [e] at q;cases q
 | some z=>rw [e] at q;cases q;refine⟨B,x,a,_,f.ft,RP.mono c D,E,e,fun w p i n G=>?_⟩;exact k w p A i (b.trans (c.trans n.stp)) (f.grow n) G
theorem Kv (o:my X (binaryOp k) g) (x:PE X a (tV X.K y)) (e:PE X b (tV X.K Q)):PE X (.BinOp a k b N) (tV X.K (ab g y Q)):=
 (FJ o x e).imp' fun _ _ _ h=>qg h
theorem II (o:my X (compareOp k) g) (x:PE X a (tV X.K y)) (e:PE X b (tV X.K Q)) (m:behindInMarks k b=false):PE X (.Compare a [k] [b] N) (tV X.K (ab g y Q)):=
 (vJ o x e m).imp' fun _ _ _ h=>qg h
theorem x_ (h:tQ X.K (bV (ab g y Q)) M H t):ya (CB (rP X.K g) (tV X.K y) (tV X.K Q)) M H t:=by
 refine qg ?_;obtain⟨F,m,L,S,d,O,r,l,q,k⟩:=h;obtain⟨x,n,e,q⟩:=ai q;cases x with
 | bl b=>cases q;exact⟨F,m,L,S,_,_,r,l,e,fun v F' m' H' s a p=>⟨_,p,k F' m' H' s a⟩⟩
 | _=>cases q
theorem Iq (o:my X (compareOp k) g) (x:PE X a (tV X.K y)) (e:PE X b (tV X.K Q)) (m:behindInMarks k b=false):PT X (.Compare a [k] [b] N) (tQ X.K (bV (ab g y Q))):=
 (vG o x e m).imp' fun _ _ _ h=>x_ h
variable {z qb:EB}{cu:Ab}
theorem ER (h:PT X a (tQ X.K z)):PW X (.BoolOp .And [a] N) (tQ X.K z):=AG h
theorem Io (h:PT X a (tQ X.K z)):PW X (.BoolOp .Or [a] N) (tQ X.K z):=CQ h
theorem Ir (n:PT X a (tQ X.K z)) (f:PW X (.BoolOp .And (b::cu) N) (tQ X.K qb)):PW X (.BoolOp .And (a::b::cu) N) (tQ X.K (gX z qb)):=
 (CS n f).imp' fun M H Q t=>by
  obtain⟨F,m,L,S,d,O,r,l,q,k⟩:=t;obtain⟨c,h,e,q⟩:=ai q;refine⟨F,m,L,S,c,h,r,l,e,fun F' m' H' s x=>?_⟩;cases c with
  | true=>rw [if_pos rfl] at q ⊢;exact⟨F',m',L,h,d,O,x,l.mono s,q,fun B p Y w v=>k B p Y (s.trans w) v⟩
  | false=>rw [if_neg bZ] at q ⊢;cases q;exact k F' m' H' s x
theorem Kt (n:PT X a (tQ X.K z)) (f:PW X (.BoolOp .Or (b::cu) N) (tQ X.K qb)):PW X (.BoolOp .Or (a::b::cu) N) (tQ X.K (wq z qb)):=
 (FE n f).imp' fun M H Q t=>by
  obtain⟨F,m,L,S,d,O,r,l,q,k⟩:=t;obtain⟨c,h,e,q⟩:=ai q;refine⟨F,m,L,S,c,h,r,l,e,fun F' m' H' s x=>?_⟩;cases c with
  | false=>rw [if_neg bZ] at q ⊢;exact⟨F',m',L,h,d,O,x,l.mono s,q,fun B p Y w v=>k B p Y (s.trans w) v⟩
  | true=>rw [if_pos rfl] at q ⊢;cases q;exact k F' m' H' s x
theorem Ip (h:PT X a (tQ X.K z)):PT X (.UnaryOp .Not a N) (tQ X.K (mw z)):=
 (CT h).imp' fun M H Q x=>by obtain⟨F,m,L,S,d,O,r,l,q,k⟩:=x;obtain⟨c,f,e,q⟩:=ai q;cases q;exact⟨F,m,L,S,c,O,r,l,e,fun F' m' H' s n=>k F' m' H' s n⟩
theorem E4 {k} (h:PE X a (tV X.K (vB z))):PE X (.BoolOp k [a] N) (tV X.K (vB z)):=C5 h
theorem sd (h:tQ X.K z M H k) (x:∀b H',k b H'->t (.bl b) H'):tV X.K (vB z) M H t:=by obtain⟨F,m,L,S,d,O,r,l,q,a⟩:=h;exact⟨F,m,L,S,.bl d,O,r,l,by unfold vB;rw [q];rfl,fun v F' m' H' s e p=>by rw [show v=.bl d from p];exact x _ _ (a F' m' H' s e)⟩
theorem vK (h:tV X.K (vB z) M H k):tQ X.K z M H fun b H'=>k (.bl b) H':=by obtain⟨F,m,L,S,d,O,r,l,q,x⟩:=h;obtain⟨c,n,e,q⟩:=ai q;cases q;exact⟨F,m,L,S,c,O,r,l,e,fun F' m' H' s a=>x _ F' m' H' s a rfl⟩
theorem IJ (f:PE X a (tV X.K (vB z))) (t:PE X (.BoolOp .And (b::cu) N) (tV X.K (vB qb))):PE X (.BoolOp .And (a::b::cu) N) (tV X.K (vB (gX z qb))):=
 (C_ f t).imp' fun M H Q h=>by
  obtain⟨F,m,L,S,d,O,r,l,q,k⟩:=vK h;obtain⟨c,x,n,q⟩:=ai q;refine sd (k:=fun c I=>if c=true then tV X.K (vB qb) M I Q else Q (.bl false) I) ⟨F,m,L,S,c,x,r,l,n,fun F' m' H' s e=>?_⟩ fun b H' q=>⟨b,rfl,q⟩;cases c with
  | true=>rw [if_pos rfl] at q ⊢;exact sd (k:=fun b Y=>Q (.bl b) Y) ⟨F',m',L,x,d,O,e,l.mono s,q,fun B p Y w v=>k B p Y (s.trans w) v⟩ fun _ _ q=>q
  | false=>rw [if_neg bZ] at q ⊢;cases q;exact k F' m' H' s e
theorem Ku (f:PE X a (tV X.K (vB z))) (t:PE X (.BoolOp .Or (b::cu) N) (tV X.K (vB qb))):PE X (.BoolOp .Or (a::b::cu) N) (tV X.K (vB (wq z qb))):=
 (FI f t).imp' fun M H Q h=>by
  obtain⟨F,m,L,S,d,O,r,l,q,k⟩:=vK h;obtain⟨c,x,n,q⟩:=ai q;refine sd (k:=fun c I=>if c=true then Q (.bl true) I else tV X.K (vB qb) M I Q) ⟨F,m,L,S,c,x,r,l,n,fun F' m' H' s e=>?_⟩ fun b H' q=>⟨b,rfl,q⟩;cases c with
  | false=>rw [if_neg bZ] at q ⊢;exact sd (k:=fun b Y=>Q (.bl b) Y) ⟨F',m',L,x,d,O,e,l.mono s,q,fun B p Y w v=>k B p Y (s.trans w) v⟩ fun _ _ q=>q
  | true=>rw [if_pos rfl] at q ⊢;cases q;exact k F' m' H' s e
theorem Iz (x:PE X a (tV X.K (vB z))):PE X (.UnaryOp .Not a N) (tV X.K (vB (mw z))):=
 (C6 x).imp' fun M H Q h=>by obtain⟨F,m,L,S,d,O,r,l,q,k⟩:=vK h;obtain⟨c,f,e,q⟩:=ai q;cases q;exact sd (k:=fun b H'=>Q (.bl (!b)) H') ⟨F,m,L,S,c,O,r,l,e,fun F' m' H' s n=>k F' m' H' s n⟩ fun b H' q=>⟨b,rfl,q⟩
theorem vg (h:PE X e (tV X.K y)):PE X e (tV X.K (vB (bV y))):=h.imp' fun M H Q h=>by
 obtain⟨F,m,L,S,d,O,r,l,q,k⟩:=vK h;obtain⟨x,f,a,q⟩:=ai q;cases x with
 | bl b=>cases q;exact⟨F,m,L,S,_,_,r,l,a,fun v F' m' H' s n p=>by cases (show v=.bl d from p);exact k F' m' H' s n⟩
 | _=>cases q
theorem Kx (g:PT X c (tQ X.K z)) (w:PE X a (tV X.K y)) (u:PE X b (tV X.K Q)):PE X (.IfExp c a b N) (tV X.K (BJ z y Q)):=
 (yF g w u).imp' fun M H h i=>by
  obtain⟨F,m,L,S,d,O,r,l,q,k⟩:=i;obtain⟨c,x,p,q⟩:=ai q;refine⟨F,m,L,S,c,x,r,l,p,fun F' m' H' s t=>?_⟩;cases c with
  | true=>rw [if_pos rfl] at q ⊢;exact⟨F',m',L,x,d,O,t,l.mono s,q,fun v B e Y f n=>k v B e Y (s.trans f) n⟩
  | false=>rw [if_neg bZ] at q ⊢;exact⟨F',m',L,x,d,O,t,l.mono s,q,fun v B e Y f n=>k v B e Y (s.trans f) n⟩
variable {fs:gj}
theorem Ec:PA X [] (nZ X.K aS):=hX.imp' fun M H Q h=>by obtain⟨F,m,L,S,d,O,r,l,q,k⟩:=h;cases q;exact k [] F m H .refl r rfl
theorem B_ (b:PE X e (tV X.K y)) (c:PA X T (nZ X.K fs)) (t:starEach (e::T) X.env=(false,eval e X.env)::starEach T X.env:=by rfl):PA X (e::T) (nZ X.K (aR y fs)):=
 (eY b c t).imp' fun M H Q z=>by obtain⟨F,m,L,S,d,O,r,l,q,k⟩:=z;obtain⟨x,h,n,q⟩:=ai q;obtain⟨xs,o,f,q⟩:=ai q;cases q;refine⟨F,m,L,S,x,h,r,l,n,fun v C p I s i u=>?_⟩;refine⟨C,p,L,h,xs,O,i,l.mono s,f,fun U B w Y a j g=>?_⟩;exact k (v::U) B w Y (s.trans a) j ⟨v,U,rfl,RP.mono a u,g⟩
noncomputable def few (xs:List q):Bool:=decide (xs.length≤1000000)
theorem ka {q:Type}{xs:List q} (h:few xs=true):xs.length≤sizeLine:=aU (of_decide_eq_true h) (by decide)
noncomputable def aF (a:gj):EV:=fun L S=>aL (a L S) fun xs h=>if few xs=true then some (.tup xs,h) else none
noncomputable def aW (a:gj):EV:=fun L S=>aL (a L S) fun xs h=>if few xs=true then some (.lst xs,h) else none
noncomputable def cy (a:gj):EE:=fun L S=>aL (a L S) fun xs h=>if few xs=true then some (.ref h.length,h++[.lst (xs.map .p)]) else none
theorem Iw {t} (h:PA X T (nZ X.K fs)):PE X (.Tuple T t N) (tV X.K (aF fs)):=(qt h).imp' fun M H Q z=>by
 obtain⟨F,m,L,S,d,O,r,l,q,k⟩:=z;obtain⟨xs,c,e,q⟩:=ai q;split at q
 .rename_i f;cases q;refine⟨F,m,L,S,xs,O,r,l,e,fun U C s I b n a=>⟨by rw [<- a.length];exact ka f,fun p x=>?_⟩⟩;exact k (.ref p) C s _ (b.trans (cc x).stp) (n.grow (cc x)) (.newTup x a)
 .cases q
theorem IC (h:PA X T (nZ X.K fs)):PE X (.List T N) (tV X.K (aW fs)):=(yD h).imp' fun M H Q z=>by
 obtain⟨F,m,L,S,d,O,r,l,q,k⟩:=z;obtain⟨xs,c,e,q⟩:=ai q;split at q
 .rename_i f;cases q;refine⟨F,m,L,S,xs,O,r,l,e,fun U C s I b n a=>⟨by rw [<- a.length];exact ka f,fun p x=>?_⟩⟩;exact k (.ref p) _ s _ (b.trans (cx x).stp) (n.grow (cx x)) (.newLst x a)
 .cases q
theorem BH (h:PA X T (nZ X.K fs)):PE X (.List T N) (tE X.K (cy fs)):=(yD h).imp' fun M H Q z=>by
 obtain⟨F,m,L,S,d,O,r,l,q,k⟩:=z;obtain⟨xs,f,b,q⟩:=ai q;split at q
 .rename_i c;cases q;refine⟨F,m,L,S,xs,f,r,l,b,fun U C x I t s e=>⟨by rw [<- e.length];exact ka c,fun p a=>?_⟩⟩;have n:Stp C x I C (x++[p]) (cm I p (.lst U)):=gq a;refine k (.ref p) C (x++[p]) _ (t.trans n) (s.own a ⟨U,aN,dA.ofP (cA.mono n e)⟩) ⟨p,rfl,?_⟩;rw [<- s.len,fZ (Nat.le_refl _)];simp
 .cases q
noncomputable def rC (K:FG) (g:List P->Option P):List V->Hp->VK->Prop:=fun xs H Q=>∃F s d,(∀a,F a->H a≠none)/\cA K F H s xs/\g s=some d/\∀v F' H',Grow F H F' H'->RP K F' H' d v->Q v H'
theorem uq (h:tV X.K (af g fs) M H t):nZ X.K fs M H fun U I=>rC X.K g U I t:=by
 obtain⟨F,m,L,S,d,O,r,l,q,k⟩:=h;obtain⟨xs,c,s,q⟩:=ai q;cases e:g xs with
 | none=>rw [e] at q;cases q
 | some z=>rw [e] at q;cases q;exact⟨F,m,L,S,xs,_,r,l,s,fun U C n I b a f=>⟨C,xs,_,a.ft,f,e,fun v B Y x p=>k v B n Y (b.trans x.stp) (a.grow x) p⟩⟩
theorem xS {x:Str}{p:Pos}{id:String}{g:List P->Option P} (c:dh X (.builtin id) (rC X.K g)) (n:Gl X x) (m:X.mg x=none) (v:bootBuiltins x=some (.builtin id)) (a:PA X (e::T) (nZ X.K fs)) (k:x≠"__name__":=by decide) (d:(x == ("__debug__":Str))=false:=by decide)
  (s:starEach (e::T) X.env=(false,eval e X.env)::starEach T X.env:=by rfl) (l:(backTo N (starEach T X.env)).any (·.1)=false:=by rfl):PE X (.Call (.Name x p) (e::T) [] N) (tV X.K (af g fs)):=
 (ky c n m v a k d s l).imp' fun _ _ _ h=>uq h
theorem ug (c:dh X (.type k) (rC X.K g)) (n:Gl X x) (m:X.mg x=none) (v:bootBuiltins x=some (.type k)) (a:PA X (e::T) (nZ X.K fs)) (f:x≠"__name__":=by decide) (d:(x == ("__debug__":Str))=false:=by decide)
  (s:starEach (e::T) X.env=(false,eval e X.env)::starEach T X.env:=by rfl) (l:(backTo N (starEach T X.env)).any (·.1)=false:=by rfl):PE X (.Call (.Name x p) (e::T) [] N) (tV X.K (af g fs)):=
 (lf c n m v a f d s l).imp' fun _ _ _ h=>uq h
noncomputable def Ho (K:FG) (g:List P->Option P):Sp:=fun U H Q _=>rC K g U H Q
theorem E3 (G:FnOk X.prog X.w X.K X.mg X.base pF k f t ps (Ho X.K g)) (j:Room k X.A) (w:Gl X x) (i:X.mg x=some (.ref f)) (u:PySem.W.keepIn X.K (.ref f)=true) (c:Binds X.K t ps [])
  (b:PA X (e::T) (nZ X.K fs)) (d:(x == ("__debug__":Str))=false:=by decide) (v:starEach (e::T) X.env=(false,eval e X.env)::starEach T X.env:=by rfl) (a:(backTo N (starEach T X.env)).any (·.1)=false:=by rfl) :
  PE X (.Call (.Name x p) (e::T) [] N) (tV X.K (af g fs)):=
 (qu G j w i u c .nil oZ b d v a).imp' fun M H Q h=>by obtain⟨F,m,L,S,n,O,r,l,q,k⟩:=uq h;exact⟨F,m,L,S,n,O,r,l,q,fun xs F' m' H' s y p=>by show Ho X.K g (xs++[]) H' Q E0;rw [List.append_nil];exact k xs F' m' H' s y p⟩
end
section
variable {X:Cx}{a b e:Expr}{l:Stmt}{cu bs cs:List Stmt}{f g:ES}{fe:EE}{z:EB}{N:Pos}
theorem Il:mx X [] (kP X.K eW):=AI.imp' fun D M H h=>by obtain⟨F,m,L,S,f,x,O,r,l,q,k⟩:=h;cases q;exact k M F m H .refl r l
theorem EL (y:PS X l (kP X.K f)) (z:mx X cu (kP X.K g)):mx X (l::cu) (kP X.K (ae f g)):=(yv y z).imp' fun D M H o=>by
 obtain⟨F,m,L,S,u,w,O,r,h,q,k⟩:=o;cases e:f L S with
 | none=>rw [show ae f g L S=none by unfold ae;rw [e]] at q;cases q
 | some x=>
  obtain⟨i,p,v⟩:=x;cases i with
  | nx=>
   have b:g p v=some (u,w,O):=by have:=q;unfold ae at this;rw [e] at this;exact this
   exact⟨F,m,L,S,.nx,p,v,r,h,e,fun a C n I t c s=>⟨C,n,p,v,u,w,O,c,s,b,fun j B P Y E A K=>k j B P Y (t.trans E) A K⟩⟩
  | rt d=>
   have b:some (Fl.rt d,p,v)=some (u,w,O):=by have:=q;unfold ae at this;rw [e] at this;exact this
   cases b;exact⟨F,m,L,S,_,_,_,r,h,e,fun a C n I t c s=>k a C n I t c s⟩
  | bk=>
   have b:some (Fl.bk,p,v)=some (u,w,O):=by have:=q;unfold ae at this;rw [e] at this;exact this
   cases b;exact⟨F,m,L,S,_,_,_,r,h,e,fun a C n I t c s=>k a C n I t c s⟩
  | ct=>
   have b:some (Fl.ct,p,v)=some (u,w,O):=by have:=q;unfold ae at this;rw [e] at this;exact this
   cases b;exact⟨F,m,L,S,_,_,_,r,h,e,fun a C n I t c s=>k a C n I t c s⟩
theorem Ik (h:PS X l (kP X.K f)):mx X [l] (kP X.K f):=AH h
theorem Ii (h:PE X e (tE X.K fe)):PS X (.Return (some e) N) (kP X.K (aO fe)):=(CV h).imp' fun D M H z=>by obtain⟨F,m,L,S,b,n,O,r,l,q,k⟩:=z;obtain⟨d,f,x,q⟩:=ai q;cases q;exact⟨F,m,L,S,d,O,r,l,x,fun v F' m' H' s a p=>k M F' m' H' s a (l.mono s) v p⟩
theorem EK (h:PE X e (tE X.K fe)) (a:swapsWith e none N.line X.env=pure false:=by rfl):PS X (.Expr e N) (kP X.K (bL fe)):=(AJ h a).imp' fun D M H z=>by obtain⟨F,m,L,S,c,f,O,r,l,q,k⟩:=z;obtain⟨d,b,x,q⟩:=ai q;cases q;exact⟨F,m,L,S,d,O,r,l,x,fun v F' m' H' s n p=>k M F' m' H' s n (l.mono s)⟩
theorem Ac (i:Nat) (n:X.N.Nodup) (h:PE X e (tE X.K fe)) (b:X.N[i]? = some x:=by rfl) (w:Loc X.env.scope x:=by first | exact Or.inl rfl | exact Or.inr rfl) (c:swapsWith e (some (.Name x t)) N.line X.env=pure false:=by rfl)
  (f:X.fn x=true\/X.env.scope.names.lookup x=some .local:=by first | exact .inl rfl | exact .inr rfl | assumption):PS X (.Assign [.Name x t] e N) (kP X.K (ao i fe)):=
 (CU n b w h c f).imp' fun D M H z=>by obtain⟨F,m,L,S,y,g,O,r,l,q,k⟩:=z;obtain⟨d,j,a,q⟩:=ai q;cases q;exact⟨F,m,L,S,d,O,r,l,a,fun v F' m' H' s u p=>k (M.set i (some v)) F' m' H' s u ((l.mono s).set p i)⟩
theorem Ks (i:PT X c (tQ X.K z)) (w:mx X bs (kP X.K f)) (u:mx X cs (kP X.K g)):PS X (.If c bs cs N) (kP X.K (eO z f g)):=(FF i w u).imp' fun D M H j=>by
 obtain⟨F,m,L,S,p,t,O,r,l,q,k⟩:=j;obtain⟨c,x,d,q⟩:=ai q;refine⟨F,m,L,S,c,x,r,l,d,fun F' m' H' s v=>?_⟩;cases c with
 | true=>rw [if_pos rfl] at q ⊢;exact⟨F',m',L,x,p,t,O,v,l.mono s,q,fun h B e Y b n a=>k h B e Y (s.trans b) n a⟩
 | false=>rw [if_neg bZ] at q ⊢;exact⟨F',m',L,x,p,t,O,v,l.mono s,q,fun h B e Y b n a=>k h B e Y (s.trans b) n a⟩
inductive gTI (K:FG) (g:iY) (x:V) (σ:L2.St) (H:Hp) (Q:L2.St->Hp->Prop):Prop
 | mk (F:Aa) (m:List Addr) (L:Lc) (v:P) (L':Lc) (h0_:RL K F H m σ L) (h1_:RP K F H v x) (h2_:g v L=some L') (h3_:∀σ',RL K F H m σ' L'->Q σ' H):gTI K g x σ H Q
noncomputable def gT (K:FG) (g:iY):TG:=fun x M H Q=>gTI K g x M H Q
theorem _root_.L2.PG.imp' (h:PG X J t) (i:∀v M H Q,k v M H Q->t v M H Q):PG X J k:=fun p s M H v u Q I r q=>h p s M H v u Q I r (i v M H Q q)
theorem DX (i:Nat) (h:X.N.Nodup) (a:X.N[i]? = some x:=by rfl) (e:Loc X.env.scope x:=by first | exact Or.inl rfl | exact Or.inr rfl) (f:X.fn x=true\/X.env.scope.names.lookup x=some .local:=by first | exact .inl rfl | exact .inr rfl | assumption) :
  PG X (.Name x N) (gT X.K (ag i)):=(AS h a e f).imp' fun v M H Q z=>by
 obtain⟨F,m,L,d,s,l,p,q,k⟩:=z;cases q;exact k _ (l.set (d:=.p d) p i)
noncomputable def Cb (K:FG) (J:It) (U:List P) (F:Aa) (m:List Addr) (H:Hp):Prop:=∀B e Y,Stp F m H B e Y ->
 (∀(i:Nat) v,U[i]? = some v->J.go i Y/\∀x h,J.yld i Y x h->∃a,Grow B Y a h/\RP K a h v x)/\J.stop U.length Y
inductive tII (K:FG) (f:gj) (σ:L2.St) (H:Hp) (R:It->Hp->Prop):Prop
 | mk (F:Aa) (m:List Addr) (L:Lc) (S:aJ) (vs:List P) (S':aJ) (h0_:Rel K F H m S) (h1_:RL K F H m σ L) (h2_:f L S=some (vs,S')) (h3_:∀J F' m' H',Stp F m H F' m' H'->Rel K F' H' m' S'->Cb K J vs F' m' H'->R J H'):tII K f σ H R
noncomputable def tI (K:FG) (f:gj):TI:=fun M H R=>tII K f M H R
theorem Im {tg iter:Expr}{fi:gj}{g:iY}{b:List Stmt}{Q:ES} (hp:PassesOwn (model X.prog X.w) X.A X.env X.xe) (hc:X.calm=true) (hi:PI X tg iter (tI X.K fi)) (hg:PG X tg (gT X.K g)) (hb:mx X b (kP X.K Q))
  (hs:∀x,foldedSetIterable iter X.env x=pure x:=by intro _;rfl):PS X (.For tg iter b [] N) (kP X.K (cb fi g Q)):=
 (CW hp hc hi hg hb hs).imp' fun D M H hz=>by
  obtain⟨F,m,L,S,fl,L',O,r,l,q,k⟩:=hz;obtain⟨U,S1,e1,q⟩:=ai q;refine⟨F,m,L,S,U,S1,r,l,e1,fun J C K I E r1 it=>?_⟩;refine⟨fun i n f Y=>n=U.length-i/\i≤U.length/\∃B a L2 s,Stp C K I B a Y/\Rel X.K B Y a s/\RL X.K B Y a f L2/\aZ g Q (U.drop i) L2 s=some (fl,L',O),
   ⟨U.length,rfl,Nat.zero_le _,C,K,L,S1,.refl,r1,l.mono E,by rw [mF];exact q⟩,?_⟩
  rintro i n f Y ⟨rfl,hi,B,a,L2,s,s2,r2,l2,h⟩;obtain⟨go,o⟩:=it B a Y s2;by_cases t:i < U.length
  .right;have hv:U[i]? = some U[i]:=by simp [t]
   rw [List.drop_eq_getElem_cons t] at h;obtain⟨hgo,hy⟩:=go i _ hv;refine⟨hgo,fun v c=>∃n',n' < U.length-i/\(n'=U.length-(i+1)/\i+1≤U.length/\∃B a L2 s,Stp C K I B a c/\Rel X.K B c a s/\RL X.K B c a v L2/\aZ g Q (U.drop (i+1)) L2 s=some (fl,L',O)),fun _ _ z=>z,fun x c y=>?_⟩;obtain⟨T,gr,p3⟩:=hy x c y;unfold aZ at h;cases eg:g U[i] L2 with
   | none=>rw [eg] at h;cases h
   | some V=>
    rw [eg] at h;dsimp only at h;refine⟨T,a,L2,U[i],V,l2.mono gr.stp,p3,eg,fun v l3=>?_⟩;have G:Stp C K I T a c:=s2.trans gr.stp;have r3:=r2.grow gr;cases eb:Q V s with
    | none=>rw [eb] at h;cases h
    | some z=>
     obtain⟨p,W,Z⟩:=z;rw [eb] at h;refine⟨T,a,V,s,p,W,Z,r3,l3,eb,fun w u P H4 R A j=>?_⟩;cases p with
     | nx=>exact⟨U.length-(i+1),by lia,rfl,t,u,P,W,Z,G.trans R,A,j,h⟩
     | ct=>exact⟨U.length-(i+1),by lia,rfl,t,u,P,W,Z,G.trans R,A,j,h⟩
     | bk=>cases h;exact k w u P H4 (E.trans (G.trans R)) A j
     | rt d=>cases h;exact k w u P H4 (E.trans (G.trans R)) A j
  .left;have e:i=U.length:=by lia
   subst e;rw [pX] at h;cases h;exact⟨o,k f B a Y (E.trans s2) r2 l2⟩
end
theorem Stp.toGrow (s:Stp F [] H F' m' H') (f:∀a,F' a->H' a≠none):Grow F H F' H':=
 ⟨fun b o h=>s.oth b o h (by simp),s.frz,fun b h=>by
  rcases s.nf b h with q | q | q
  .exact .inl q
  .exact .inr ⟨q,f b h⟩
  .simp at q⟩
theorem jK {q:Prop}{β:Type}{d:β} (h:(none:Option β)=some d):q:=nomatch h
noncomputable def gc (n:Nat):Bool:=decide (n≤1000000)
theorem gy (h:gc n=true):n≤sizeLine:=aU (of_decide_eq_true h) (by decide)
section
variable {X:Cx}
noncomputable def rG:P->P->Option P
 | .int i,.int j=>some (.int (i+j))
 | .str x,.str y=>if gc (x.length+y.length)=true then some (.str (x++y)) else none
 | .tup xs,.tup s=>if (!xs.isEmpty && gc (xs.length+s.length))=true then some (.tup (xs++s)) else none
 | .lst xs,.lst s=>if gc (xs.length+s.length)=true then some (.lst (xs++s)) else none
 | _,_=>none
theorem F4:my X (binaryOp .Add) rG:=by
 intro n s M H x y v u Q I l o h;obtain⟨F,D,t,d,G,w,g,q,k⟩:=h;cases D with
 | int i=>
  cases t with
  | int j=>cases q;cases (show x=.int i from w);cases (show y=.int j from g);exact Di n s M H _ _ v u Q I l o ⟨i,j,rfl,rfl,k _ F H .refl rfl⟩
  | _=>exact jK q
 | str i=>
  cases t with
  | str j=>
   simp only [rG] at q;split at q
   .rename_i c;cases q;cases (show x=.str i from w);cases (show y=.str j from g);exact uD n s M H _ _ v u Q I l o ⟨i,j,rfl,rfl,gy c,k _ F H .refl rfl⟩
   .cases q
  | _=>exact jK q
 | tup A=>
  cases t with
  | tup T=>
   simp only [rG] at q;split at q
   .rename_i c;rw [Bool.and_eq_true] at c;cases q;obtain⟨a,xs,rfl,S,r⟩:=w;obtain⟨b,P,rfl,K,m⟩:=g;have B:=r.length;have C:=m.length;have E:xs≠[]:=fun z=>by
     subst z;have:A=[]:=iu B;subst this;simp at c
    refine AZ n s M H _ _ v u Q I l o ⟨a,b,xs,P,rfl,rfl,S.sq,K.sq,E,by rw [<- B,<- C];exact gy c.2,fun z=>?_,fun _ p f=>?_⟩
    .subst z;have e:T=[]:=iu C;subst e;refine k _ F H .refl ?_;rw [List.append_nil];exact⟨a,xs,rfl,S,r⟩
    .exact k _ F _ (cc f) (.newTup f (r.append m))
   .cases q
  | _=>exact jK q
 | lst A=>
  cases t with
  | lst T=>
   simp only [rG] at q;split at q
   .rename_i c;cases q;obtain⟨a,xs,rfl,S,r⟩:=w;obtain⟨b,P,rfl,K,m⟩:=g;exact Dh n s M H _ _ v u Q I l o ⟨a,b,xs,P,rfl,rfl,S.2,K.2,by rw [<- r.length,<- m.length];exact gy c,fun p f=>k _ _ _ (cx f) (.newLst f (r.append m))⟩
   .cases q
  | _=>exact jK q
 | _=>exact jK q
noncomputable def z9 (c:Int->Int->Bool) (g:Int->Int->P):P->P->Option P
 | .int i,.int j=>if c i j=true then some (g i j) else none
 | _,_=>none
@[simp] theorem Bq (c:Int->Int->Bool) (g:Int->Int->P) (i j:Int):z9 c g (.int i) (.int j)=if c i j=true then some (g i j) else none:=rfl
theorem ss {f:Value->Value->Sem Value}{C:Int->Int->Prop}{a:Int->Int->V}{c:Int->Int->Bool}{g:Int->Int->P} (o:ik X f (rI C a)) (b:∀i j,c i j=true->C i j) (m:∀K F H i j,RP K F H (g i j) (a i j)):my X f (z9 c g):=by
 intro p s M H x y v u Q I l z h;obtain⟨F,e,n,d,S,t,w,q,k⟩:=h;cases e with
 | int i=>
  cases n with
  | int j=>
   rw [Bq] at q;split at q
   .rename_i r;cases q;cases (show x=.int i from t);cases (show y=.int j from w);exact o p s M H _ _ v u Q I l z ⟨i,j,rfl,rfl,b i j r,k _ F H .refl (m _ _ _ _ _)⟩
   .cases q
  | _=>exact jK q
 | _=>exact jK q
theorem nj (h:ik X f (AD k)):ik X f (rI (fun _ _=>True) k):=fun p s M H x y v u Q I r n ⟨i,j,e,a,_,q⟩=>h p s M H x y v u Q I r n ⟨i,j,e,a,q⟩
noncomputable abbrev xP:Int->Int->Bool:=fun _ _=>true
noncomputable abbrev rD:=z9 xP fun i j=>.int (i-j)
theorem FQ:my X (binaryOp .Sub) rD:=ss (nj Db) (fun _ _ _=>trivial) fun _ _ _ _ _=>rfl
noncomputable abbrev C0:Int->Int->Bool:=fun _ j=>decide (0 < j) && decide (j < 1152921504606846976)
theorem yN:ik X (binaryOp .FloorDiv) (rI (fun _ j=>0 < j/\j < 1152921504606846976) fun i j=>.int (i / j)):=Hu fun i j _ _ _ _ _ h q=>by have a:(0:Int) < j:=h.1;have e:j < 1152921504606846976:=h.2;have x:j.natAbs.log2 < 9000:=cq ((Nat.log2_lt (by lia)).mpr (show j.natAbs < 2 ^ 60 by lia)) (by decide);exact floordiv_int (by lia) (by rw [Int.fdiv_eq_ediv_of_nonneg i (by lia)];exact q) (.inl (PyProof.noPylong_of_log2 x))
noncomputable abbrev aK:=z9 C0 fun i j=>.int (i / j)
theorem A0:my X (binaryOp .FloorDiv) aK:=ss yN (fun i j h=>by rw [Bool.and_eq_true] at h;exact⟨of_decide_eq_true h.1,of_decide_eq_true h.2⟩) fun _ _ _ _ _=>rfl
noncomputable abbrev a_:=z9 (fun _ j=>decide (0 < j)) fun i j=>.int (i % j)
theorem FU:my X (binaryOp .Mod) a_:=ss De (fun i j h=>of_decide_eq_true h) fun _ _ _ _ _=>rfl
noncomputable abbrev Bp:=z9 (fun i j=>decide (0≤j) && decide (j≤1000000) && decide (i.natAbs < 2 ^ 64)) fun i j=>.int (i ^ j.toNat)
theorem FR:my X (binaryOp .Pow) Bp:=ss Dd (fun i j h=>by simp only [Bool.and_eq_true] at h;exact⟨of_decide_eq_true h.1.1,of_decide_eq_true h.1.2,of_decide_eq_true h.2⟩) fun _ _ _ _ _=>rfl
noncomputable abbrev z8:=z9 xP fun i j=>.bl (decide (i < j))
theorem Jm:my X (compareOp .Lt) z8:=ss (nj FM) (fun _ _ _=>trivial) fun _ _ _ _ _=>rfl
noncomputable abbrev GY:=z9 xP fun i j=>.bl (decide (i≤j))
theorem Jn:my X (compareOp .LtE) GY:=ss (nj FN) (fun _ _ _=>trivial) fun _ _ _ _ _=>rfl
noncomputable abbrev Ey:=z9 xP fun i j=>.bl (decide (j < i))
theorem Jo:my X (compareOp .Gt) Ey:=ss (nj FO) (fun _ _ _=>trivial) fun _ _ _ _ _=>rfl
noncomputable abbrev GZ:=z9 xP fun i j=>.bl (decide (j≤i))
theorem Jp:my X (compareOp .GtE) GZ:=ss (nj FP) (fun _ _ _=>trivial) fun _ _ _ _ _=>rfl
noncomputable def fo (i j:Int):Bool:=decide (i.natAbs.log2+j.natAbs.log2 < 100000000)
theorem yS {i j:Int} (h:fo i j=true):IntMulOk i j:=by
 have a:i.natAbs.log2+j.natAbs.log2 < 100000000:=of_decide_eq_true h;have b:∀x:Int,Builtin.Int.intBits x≤x.natAbs.log2+1:=fun x=>by
  unfold Builtin.Int.intBits;split
  .exact Nat.zero_le _
  .exact Nat.le_refl _
 exact IntMulOk.of_le (b i) (b j) (by lia)
theorem AY:ik X (binaryOp .Mult) (rI (fun i j=>IntMulOk i j) fun i j=>.int (i * j)):=Hu fun _ _ _ _ _ _ _ h q=>mul_int q h
noncomputable def dM (x:Str) (n:Nat):Str:=⟨(List.replicate n x.cps).foldl (·++·) #[]⟩
theorem ut (x:Str):dM x 1=x:=by unfold dM;cases x;simp
theorem xk (n:Nat):(List.replicate n (#[]:Array Nat)).foldl (·++·) #[]=#[]:=by
 induction n with
 | zero=>rfl
 | succ n i=>rw [dE,gF];simpa using i
theorem qj (x:Str) (n:Nat) (h:x.length=0):dM x n=x:=by have e:x.cps=#[]:=Array.eq_empty_of_size_eq_zero (by simpa [Str.length] using h);unfold dM;cases x;simp only at e;subst e;rw [xk]
theorem uR (a:Array Nat) (n:Nat):∀b:Array Nat,((List.replicate n a).foldl (·++·) b).size=b.size+n * a.size:=by
 induction n with
 | zero=>intro b;simp
 | succ n i=>intro b;rw [dE,gF,i,Array.size_append,Nat.succ_mul];lia
theorem jJ (x:Str) (n:Nat):(dM x n).length=n * x.length:=by unfold dM Str.length;simp only;rw [uR];simp
noncomputable def rF:P->P->Option P
 | .int i,.int j=>if fo i j=true then some (.int (i * j)) else none
 | .str x,.int n=>if (gc (n.toNat * x.length) && decide (n.natAbs < 1000000))=true then some (.str (dM x n.toNat)) else none
 | .lst xs,.int n=>if (gc (xs.length * n.toNat) && decide (n.natAbs < 1000000))=true then some (.lst (List.replicate n.toNat xs).flatten) else none
 | _,_=>none
theorem cA.rep (h:cA K F H r xs):∀k:Nat,cA K F H (List.replicate k r).flatten (List.replicate k xs).flatten
 | 0=>rfl
 | k+1=>by rw [dE,dE,hR,hR];exact h.append (cA.rep h k)
theorem FT:my X (binaryOp .Mult) rF:=by
 intro r s M H x y v u Q I o S h;obtain⟨F,B,w,d,L,g,l,q,k⟩:=h;cases B with
 | int i=>
  cases w with
  | int j=>
   simp only [rF] at q;split at q
   .rename_i c;cases q;cases (show x=.int i from g);cases (show y=.int j from l);exact AY r s M H _ _ v u Q I o S ⟨i,j,rfl,rfl,yS c,k _ F H .refl rfl⟩
   .cases q
  | _=>exact jK q
 | str i=>
  cases w with
  | int n=>
   simp only [rF] at q;split at q
   .rename_i c;rw [Bool.and_eq_true] at c;have E:=of_decide_eq_true c.2;have N:n.toNat * i.length≤1000000:=of_decide_eq_true c.1;have R:=jf;have T:(1000000:Nat)≤sizeLine:=by decide
    cases q;cases (show x=.str i from g);cases (show y=.int n from l);obtain⟨t,rfl⟩:=o;obtain⟨U,rfl⟩:=S;refine PySem.P.mul_str (by have C:decide (n < -(2 ^ 63:Int))=false:=bB (by lia);have D:decide (n ≥ 2 ^ 63)=false:=bB (by lia);rw [C,D];rfl) (fun a b=>?_) (fun a b=>?_) ?_
    .intro z;have O:((i.length:Nat):Int)≤(2 ^ 63-1) / n:=by
      refine (Int.le_ediv_iff_mul_le (by lia)).mpr ?_;have e:((i.length:Nat):Int) * n=((n.toNat * i.length:Nat):Int):=by rw [Int.natCast_mul,Int.toNat_of_nonneg (by lia),Int.mul_comm]
      rw [e];lia
     lia
    .unfold Builtin.Str.tooLong;first
      | exact bB (by rw [mD];lia)
      | (rw [mD];exact bB (by lia))
    .have f:Q (.str (dM i n.toNat)) H:=k _ F H .refl rfl;by_cases K:n < 1
     .rw [if_pos K];have e:n.toNat=0:=by lia
      rw [e] at f;exact⟨by decide,⟨.str Str.empty,H,I.tok _,⟨_,rfl⟩,f⟩⟩
     .rw [if_neg K];by_cases m:(n == 1 || i.length == 0)=true
      .rw [if_pos m];rw [i7] at m;have e:dM i n.toNat=i:=by
        rcases m with m | m
        .have:n=1:=by simpa using m
         subst this;exact ut i
        .exact qj i _ (by simpa using m)
       rw [e] at f;exact⟨.str i,H,I,⟨_,rfl⟩,f⟩
      .rw [if_neg m];refine⟨?_,⟨.str (dM i n.toNat),H,I.tok _,⟨_,rfl⟩,f⟩⟩;have:=jJ i n.toNat
       unfold dM at this;rw [this];lia
   .cases q
  | _=>exact jK q
 | lst J=>
  cases w with
  | int n=>
   simp only [rF] at q;split at q
   .rename_i c;rw [Bool.and_eq_true] at c;have E:=of_decide_eq_true c.2;cases q;obtain⟨a,xs,rfl,G,A⟩:=g;cases (show y=.int n from l);exact Dc r s M H _ _ v u Q I o S ⟨a,n,xs,rfl,rfl,G.2,by lia,by lia,by rw [<- A.length];exact gy c.1,fun p P=>k _ _ _ (cx P) (.newLst P (A.rep _))⟩
   .cases q
  | _=>exact jK q
 | _=>exact jK q
noncomputable def JL:P->P->Option P
 | .int i,.int j=>some (.bl (decide (i=j)))
 | .str x,.str y=>some (.bl (decide (x=y)))
 | .bl a,.bl b=>some (.bl (decide (a=b)))
 | _,_=>none
noncomputable def D5:P->P->Option P
 | .int i,.int j=>some (.bl (!decide (i=j)))
 | .str x,.str y=>some (.bl (!decide (x=y)))
 | .bl a,.bl b=>some (.bl (!decide (a=b)))
 | _,_=>none
theorem lW {i j:Int}:decide (V.int i=V.int j)=decide (i=j):=by
 by_cases h:i=j
 .subst h;simp
 .rw [bB h,bB fun z=>h (V.int.inj z)]
theorem lV:decide (V.str i=V.str k)=decide (i=k):=by
 by_cases h:i=k
 .subst h;simp
 .rw [bB h,bB fun z=>h (V.str.inj z)]
theorem nP:decide (V.bl i=V.bl k)=decide (i=k):=by
 by_cases h:i=k
 .subst h;simp
 .rw [bB h,bB fun z=>h (V.bl.inj z)]
theorem Jq:my X (compareOp .Eq) JL:=by
 intro p s M H x y v u Q I r f h;obtain⟨F,b,a,d,t,e,n,q,k⟩:=h;cases b with
 | int i=>
  cases a with
  | int j=>cases q;cases (show x=.int i from e);cases (show y=.int j from n);exact yO p s M H _ _ v u Q I r f ⟨rfl,by rw [lW];exact k _ F H .refl rfl⟩
  | _=>exact jK q
 | str i=>
  cases a with
  | str j=>cases q;cases (show x=.str i from e);cases (show y=.str j from n);exact yO p s M H _ _ v u Q I r f ⟨rfl,by rw [lV];exact k _ F H .refl rfl⟩
  | _=>exact jK q
 | bl i=>
  cases a with
  | bl j=>cases q;cases (show x=.bl i from e);cases (show y=.bl j from n);exact yO p s M H _ _ v u Q I r f ⟨rfl,by rw [nP];exact k _ F H .refl rfl⟩
  | _=>exact jK q
 | _=>exact jK q
theorem Jl:my X (compareOp .NotEq) D5:=by
 intro p s M H x y v u Q I r f h;obtain⟨F,b,a,d,t,e,n,q,k⟩:=h;cases b with
 | int i=>
  cases a with
  | int j=>cases q;cases (show x=.int i from e);cases (show y=.int j from n);exact yM p s M H _ _ v u Q I r f ⟨rfl,by rw [lW];exact k _ F H .refl rfl⟩
  | _=>exact jK q
 | str i=>
  cases a with
  | str j=>cases q;cases (show x=.str i from e);cases (show y=.str j from n);exact yM p s M H _ _ v u Q I r f ⟨rfl,by rw [lV];exact k _ F H .refl rfl⟩
  | _=>exact jK q
 | bl i=>
  cases a with
  | bl j=>cases q;cases (show x=.bl i from e);cases (show y=.bl j from n);exact yM p s M H _ _ v u Q I r f ⟨rfl,by rw [nP];exact k _ F H .refl rfl⟩
  | _=>exact jK q
 | _=>exact jK q
theorem wt {q β:Type}{xs:List q}{s:List β}{i:Int}{d:q} (l:xs.length=s.length) (h:L2.atI xs i=some d):∃j:Nat,xs[j]? = some d/\∀y,s[j]? = some y->L2.atI s i=some y:=by
 unfold L2.atI at h ⊢;rw [l] at h;cases e:w_ s.length i with
 | none=>rw [e] at h;cases h
 | some j=>rw [e] at h;exact⟨j,h,fun y x=>x⟩
theorem cA.atI {K:FG}{F:Aa}{H:Hp}{s:List P}{xs:List V}{i:Int}{d:P} (r:cA K F H s xs) (h:L2.atI s i=some d):∃x,L2.atI xs i=some x/\RP K F H d x:=by obtain⟨j,a,n⟩:=wt r.length h;obtain⟨x,e,p⟩:=r.get a;exact⟨x,n x e,p⟩
theorem dA.atI {K:FG}{F:Aa}{H:Hp}{m:List Addr}{s:List D}{xs:List V}{i:Int}{d:D} (r:dA K F H m s xs) (h:L2.atI s i=some d):∃x,L2.atI xs i=some x/\RD K F H m d x:=by obtain⟨j,a,n⟩:=wt r.length h;obtain⟨x,e,p⟩:=r.get a;exact⟨x,n x e,p⟩
noncomputable def bR (k:bI):List bI->List q->Option q
 | h::s,v::U=>if h=k then some v else bR k s U
 | _,_=>none
noncomputable def cg:P->Option bI
 | .int i=>some (.inl i)
 | .str x=>some (.inr x)
 | _=>none
noncomputable def am:P->P->Option P
 | .tup xs,.int i=>L2.atI xs i
 | .lst xs,.int i=>L2.atI xs i
 | .ro xs,.int i=>L2.atI xs i
 | .str x,.int i=>if gc x.length=true then (L2.atI x.cps.toList i).map fun c=>.str ⟨#[c]⟩ else none
 | .dct s U,y=>match cg y with
  | some k=>bR k s U
  | none=>none
 | _,_=>none
theorem kZ:∀{s:List (bI×V)}{a:List P}{d:P},cA K F H a (s.map (·.2))->bR k (s.map (·.1)) a=some d->∃v,fQ s k=some v/\RP K F H d v
 | [],a,d,r,h=>by cases a <;> exact jK h
 | (f,v)::s,[],d,r,h=>jK h
 | (f,v)::s,u::a,d,r,h=>by
  obtain⟨x,g,e,p,b⟩:=r;rw [List.map_cons] at e;injection e with c m;simp only [List.map_cons,bR] at h;by_cases n:f=k
  .rw [if_pos n] at h;cases h;exact⟨v,gG (p:=(f,v)) n,by rw [show v=x from c];exact p⟩
  .rw [if_neg n] at h;rw [<- m] at b;obtain⟨w,t,q⟩:=kZ b h;exact⟨w,by rw [fP (p:=(f,v)) n];exact t,q⟩
theorem gN (h:cg t=some k) (r:RP K F H t v):v=kV k:=by
 cases t with
 | int i=>cases h;exact r
 | str x=>cases h;exact r
 | _=>exact jK h
theorem y9 (r:X.A.units+1 < cLine):z5 X (fun x y H Q=>∃a v,x=.ref a/\iT H a y (some v)/\(∃k,H a=some (.dK k))/\Q v H):=by
 intro f l p s M H x y v u Q I d i h m;obtain⟨a,w,rfl,g,⟨k,c⟩,q⟩:=h;cases d;have n:∃o,s.heap.get? a=some o/\o.ExactDict:=by obtain⟨_,_,_,_,o,_,_,e,n,_⟩:=I.hok a _ c;exact⟨o,e,n⟩
 obtain⟨o,e,n⟩:=n;exact tail_any ⟨o,e,n.1⟩ slot_dict_getitem.lookup (pe r I g i fun z j b t=>⟨w,H,b,t,q⟩) m
theorem J6 (N:X.A.units+1 < cLine):z5 X (rP X.K am):=by
 intro f l b s M H x n v u Q I S K h g;obtain⟨F,E,t,d,R,j,o,q,k⟩:=h;cases E with
 | tup m=>
  cases t with
  | int i=>obtain⟨a,xs,rfl,P,r⟩:=j;cases (show n=.int i from o);obtain⟨z,e,p⟩:=r.atI (show L2.atI m i=some d from q);exact DO f l b s M H _ _ v u Q I S K ⟨a,xs,i,z,rfl,rfl,P.sq,e,k z F H .refl p⟩ g
  | _=>exact jK q
 | lst m=>
  cases t with
  | int i=>obtain⟨a,xs,rfl,P,r⟩:=j;cases (show n=.int i from o);obtain⟨z,e,p⟩:=r.atI (show L2.atI m i=some d from q);exact qI f l b s M H _ _ v u Q I S K ⟨a,xs,i,z,rfl,rfl,P.sq,e,k z F H .refl p⟩ g
  | _=>exact jK q
 | ro m=>
  cases t with
  | int i=>obtain⟨a,xs,rfl,P,r⟩:=j;cases (show n=.int i from o);obtain⟨z,e,p⟩:=r.atI (show L2.atI m i=some d from q);exact qI f l b s M H _ _ v u Q I S K ⟨a,xs,i,z,rfl,rfl,P.sq,e,k z F H .refl p⟩ g
  | _=>exact jK q
 | str z=>
  cases t with
  | int i=>
   cases (show x=.str z from j);cases (show n=.int i from o);simp only [am] at q;split at q
   .rename_i L;cases e:L2.atI z.cps.toList i with
    | none=>rw [e] at q;exact jK q
    | some c=>rw [e] at q;cases q;exact DP f l b s M H _ _ v u Q I S K ⟨z,i,c,rfl,rfl,gy L,e,k _ F H .refl rfl⟩ g
   .cases q
  | _=>exact jK q
 | dct T m=>
  obtain⟨a,C,rfl,y,D,J,r⟩:=j;simp only [am] at q;cases A:cg t with
  | none=>rw [A] at q;exact jK q
  | some O=>rw [A] at q;dsimp only at q;subst J;obtain⟨w,G,p⟩:=kZ r q;have B:=gN A o;subst B;exact y9 N f l b s M H _ _ v u Q I S K ⟨a,w,rfl,by rw [<- G];exact iT.k D,⟨C,D⟩,k w F H .refl p⟩ g
 | _=>exact jK q
theorem Kw {a b:Expr}{y Q:EV}{N:Pos} (u:X.A.units+1 < cLine) (x:PE X a (tV X.K y)) (e:PE X b (tV X.K Q)) (s:kN b):PE X (.Subscript a b N) (tV X.K (ab am y Q)):=
 (yE (J6 u) x e s).imp' fun _ _ _ h=>qg h
end
section
variable {X:Cx}
theorem m7:∀{s:List (bI×V)}{a:List D}{d:D},dA K F H m a (s.map (·.2))->bR k (s.map (·.1)) a=some d->∃v,fQ s k=some v/\RD K F H m d v
 | [],a,d,r,h=>by cases a <;> exact jK h
 | (f,v)::s,[],d,r,h=>jK h
 | (f,v)::s,g::a,d,r,h=>by
  obtain⟨x,i,e,p,b⟩:=r;rw [List.map_cons] at e;injection e with c t;simp only [List.map_cons,bR] at h;by_cases n:f=k
  .rw [if_pos n] at h;cases h;exact⟨v,gG (p:=(f,v)) n,by rw [show v=x from c];exact p⟩
  .rw [if_neg n] at h;rw [<- t] at b;obtain⟨w,q,u⟩:=m7 b h;exact⟨w,by rw [fP (p:=(f,v)) n];exact q,u⟩
noncomputable def t3 (r:EE) (k:EV):EE:=fun L S=>aL (r L S) fun d x=>aL (k L x) fun y h=>match d with
 | .p v=>(am v y).map fun z=>(.p z,h)
 | .ref i=>match h[i]? with
  | some (.lst s)=>(match y with
   | .int j=>(L2.atI s j).map fun z=>(z,h)
   | _=>none)
  | some (.fz v)=>(am v y).map fun z=>(.p z,h)
  | some (.dct a U)=>(match cg y with
   | some k=>(bR k a U).map fun z=>(z,h)
   | none=>none)
  | _=>none
theorem IF {a b:Expr}{y:EE}{Q:EV}{N:Pos} (hu:X.A.units+1 < cLine) (ha:PE X a (tE X.K y)) (hb:PE X b (tV X.K Q)) (hs:kN b):PE X (.Subscript a b N) (tE X.K (t3 y Q)):=
 (yE (((J6 hu).or qI).or (y9 hu)) ha hb hs).imp' fun M H h hz=>by
  obtain⟨F,m,L,S,d,O,r,l,q,k⟩:=hz;obtain⟨x,S1,A,q⟩:=ai q;obtain⟨e,K,e2,q⟩:=ai q;refine⟨F,m,L,S,x,S1,r,l,A,fun v C m1 I c r1 p1=>?_⟩;refine⟨C,m1,L,S1,e,K,r1,l.mono c,e2,fun u B R Y o f W=>?_⟩;have px:=RD.mono o p1;have s:∀w:P,RP X.K B Y w v->(am w e).map (fun z=>(D.p z,K))=some (d,O)->rP X.K am v u Y h:=fun w pw q=>by
   cases g:am w e with
   | none=>rw [g] at q;cases q
   | some z=>rw [g] at q;cases q;exact⟨B,w,e,z,f.ft,pw,W,g,fun t F3 H3 gr Z=>k t F3 R H3 (c.trans (o.trans gr.stp)) (f.grow gr) Z⟩
  cases x with
  | p w=>exact .inl (.inl (s w px q))
  | ref i=>
   obtain⟨a,rfl,hm⟩:=px;dsimp only at q;cases T:K[i]? with
   | none=>rw [T] at q;cases q
   | some so=>
    rw [T] at q;have V:=f.obj i a so hm T;cases so with
    | fz w=>exact .inl (.inl (s w V q))
    | dct ks U=>
     dsimp only at q;obtain⟨n,hk,ek,ra⟩:=V;cases E:cg e with
     | none=>rw [E] at q;cases q
     | some J=>
      rw [E] at q;dsimp only at q;subst ek;cases g:bR J (n.map (·.1)) U with
      | none=>rw [g] at q;cases q
      | some z=>rw [g] at q;cases q;obtain⟨w,A,p⟩:=m7 ra g;have G:=gN E W;subst G;exact .inr ⟨a,w,rfl,by rw [<- A];exact iT.k hk,⟨n,hk⟩,k w B R Y (c.trans o) f p⟩
    | ins _ _ _=>cases q
    | exc _=>cases q
    | dtt _ _=>cases q
    | lst ds=>
     dsimp only at q;cases e with
     | int j=>
      dsimp only at q;obtain⟨xs,hH,rs⟩:=V;cases g:L2.atI ds j with
      | none=>rw [g] at q;cases q
      | some z=>rw [g] at q;cases q;obtain⟨t,e3,Z⟩:=rs.atI g;cases (show u=.int j from W);exact .inl (.inr ⟨a,xs,j,t,rfl,rfl,gY.of hH,e3,k t B R Y (c.trans o) f Z⟩)
     | _=>cases q
noncomputable def cQ:P->Option Nat
 | .tup xs=>some xs.length
 | .lst xs=>some xs.length
 | .ro xs=>some xs.length
 | .str x=>if gc x.length=true then some x.length else none
 | _=>none
noncomputable def cj:D->aJ->Option Nat
 | .p v,_=>cQ v
 | .ref i,S=>match S[i]? with
  | some (.lst d)=>some d.length
  | some (.fz v)=>cQ v
  | _=>none
noncomputable def dU (r:EE):EV:=fun L S=>aL (r L S) fun d h=>(cj d h).map fun n=>(.int n,h)
theorem vT {F:Aa}{H:Hp}{w:P}{v:V}{n:Nat}{Q:VK} (p:RP X.K F H w v) (h:cQ w=some n) (q:Q (.int n) H) :
  (∃p y,[v]=[V.ref p]/\(gY X.K H p y\/mQ X.K H p y)/\Q (.int y.length) H)\/(∃z,[v]=[V.str z]/\z.length≤sizeLine/\Q (.int z.length) H):=by
 cases w with
 | tup d=>obtain⟨a,xs,rfl,t,r⟩:=p;cases h;exact .inl ⟨a,xs,rfl,.inr t.sq,by rw [<- r.length];exact q⟩
 | lst d=>obtain⟨a,xs,rfl,t,r⟩:=p;cases h;exact .inl ⟨a,xs,rfl,.inl t.sq,by rw [<- r.length];exact q⟩
 | ro d=>obtain⟨a,xs,rfl,t,r⟩:=p;cases h;exact .inl ⟨a,xs,rfl,.inl t.sq,by rw [<- r.length];exact q⟩
 | str x=>
  cases (show v=.str x from p);simp only [cQ] at h;split at h
  .rename_i c;cases h;exact .inr ⟨x,rfl,gy c,q⟩
  .cases h
 | _=>exact jK h
theorem ID (K:Gl X "len") (s:X.mg "len"=none) (z:PE X e (tE X.K fe)) (b:starEach [e] X.env=[(false,eval e X.env)]:=by rfl):PE X (.Call (.Name "len" p) [e] [] N) (tV X.K (dU fe)):=
 (ky (rM.or rL) K s PySem.boot_len (eY z hX (by rw [b];rfl)) (by decide) (by decide) (by rw [b];rfl) rfl).imp' fun M H Q P=>by
  obtain⟨F,m,L,S,d,O,r,l,q,k⟩:=P;obtain⟨x,f,g,q⟩:=ai q;refine⟨F,m,L,S,x,f,r,l,g,fun v C A I D t c=>?_⟩;cases h:cj x f with
  | none=>rw [h] at q;cases q
  | some n=>
   rw [h] at q;cases q;have y:Q (.int n) I:=k _ C A I D t rfl;cases x with
   | p w=>exact vT c h y
   | ref i=>
    obtain⟨a,rfl,s⟩:=c;simp only [cj] at h;cases T:O[i]? with
    | none=>rw [T] at h;cases h
    | some u=>
     rw [T] at h;have o:=t.obj i a u s T;cases u with
     | fz w=>exact vT o h y
     | dct G U=>cases h
     | ins _ _ _=>cases h
     | exc _=>cases h
     | dtt _ _=>cases h
     | lst E=>cases h;obtain⟨xs,j,B⟩:=o;exact .inl ⟨a,xs,rfl,.inl (gY.of j),by rw [<- B.length];exact y⟩
noncomputable def dk (d:D) (S:aJ):Option (Nat×List D):=match d with
 | .ref i=>match S[i]? with
  | some (.lst s)=>some (i,s)
  | _=>none
 | _=>none
theorem kz (h:dk d S=some (i,k)):d=.ref i/\S[i]? = some (.lst k):=by
 unfold dk at h;split at h
 .split at h
  .rename_i e;cases h;exact⟨rfl,e⟩
  .cases h
 .cases h
noncomputable def bu (r:EE) (a:EE):EE:=fun L S=>aL (r L S) fun d h=>match dk d h with
 | none=>none
 | some _=>aL (a L h) fun x e=>match dk d e with
  | some (i,s)=>if few s=true then some (.p .non,e.set i (.lst (s++[x]))) else none
  | none=>none
theorem Ai {o e:Expr}{R fe:EE}{p c:Pos} (ho:PE X o (tE X.K R)) (he:PE X e (tE X.K fe)) (E:starEach [e] X.env=[(false,eval e X.env)]:=by rfl)
  (b:attributeBase o "append" X.env (eval o X.env)=eval o X.env:=by rfl) (f:(p.endLine == c.line)=true:=by rfl):PE X (.Call (.Attribute o "append" p) [e] [] c) (tE X.K (bu R fe)):=
 (BR uc PySem.F.slot_list_append PySem.F.type_list_append o4 ho (eY he hX (by rw [E];rfl)) b (by rw [E];rfl) f (by rw [E];rfl) rfl).imp' fun M H Q hz=>by
  obtain⟨F,m,L,S,d,O,r,h,q,k⟩:=hz;obtain⟨x,K,e1,q⟩:=ai q;refine⟨F,m,L,S,x,K,r,h,e1,fun v C m1 I s1 Z W=>?_⟩;cases A:dk x K with
  | none=>rw [A] at q;cases q
  | some z=>
   obtain⟨i,ds⟩:=z;rw [A] at q;dsimp only at q;obtain⟨rfl,T⟩:=kz A;obtain⟨a,rfl,hm⟩:=id W;obtain⟨xs,hH,rs⟩:=Z.obj i a _ hm T;refine⟨.inl ⟨rfl,xs,gY.of hH⟩,?_⟩;obtain⟨y,N,e2,q⟩:=ai q;refine⟨C,m1,L,K,y,N,Z,h.mono s1,e2,fun u B G Y s2 J p2=>?_⟩;cases s:dk (.ref i) N with
   | none=>rw [s] at q;cases q
   | some z=>
    obtain⟨i2,P⟩:=z;rw [s] at q;dsimp only at q;obtain⟨e3,n⟩:=kz s;cases e3;split at q
    .rename_i U;cases q;obtain⟨a2,e4,t⟩:=RD.mono s2 W;cases e4;obtain⟨w,g,j⟩:=J.obj i a _ t n;have hl:=ka U;have D:w.length < sizeLine:=by
      have:P.length≤1000000:=of_decide_eq_true U;rw [<- j.length];exact kU this (by decide)
     have V:∀zs,Y a≠some (.tup zs):=fun zs z=>by rw [g] at z;cases z
     have l:Stp B G Y B G (cm Y a (.lst (w++[u]))):=fK J t n trivial V;refine⟨a,w,u,rfl,rfl,g,D,?_⟩;exact k .non B G _ (s1.trans (s2.trans l)) (J.set t n trivial V ⟨_,aN,dA.mono l (j.append ⟨u,[],rfl,p2,rfl⟩)⟩) rfl
    .cases q
noncomputable abbrev EO:=Lc->aJ->Option (Option Int×aJ)
noncomputable def gI:EO:=fun _ S=>some (none,S)
noncomputable def gm (a:EV):EO:=fun L S=>aL (a L S) fun v h=>match v with
 | .int i=>some (some i,h)
 | _=>none
inductive tOI (K:FG) (f:EO) (σ:L2.St) (H:Hp) (Q:Option Int->Hp->Prop):Prop
 | mk (F:Aa) (m:List Addr) (L:Lc) (S:aJ) (b:Option Int) (S':aJ) (h0_:Rel K F H m S) (h1_:RL K F H m σ L) (h2_:f L S=some (b,S')) (h3_:∀F' m' H',Stp F m H F' m' H'->Rel K F' H' m' S'->Q b H'):tOI K f σ H Q
noncomputable def tO (K:FG) (f:EO):TO:=fun M H Q=>tOI K f M H Q
theorem _root_.L2.PO.imp' (h:PO X e t) (i:∀M H Q,k M H Q->t M H Q):PO X e k:=fun p s M H Q I q=>h p s M H Q I (i M H Q q)
theorem Dp:PO X none (tO X.K gI):=AO.imp' fun M H Q h=>by obtain⟨F,m,L,S,d,O,r,l,q,k⟩:=h;cases q;exact k F m H .refl r
theorem Do (h:PE X e (tV X.K y)):PO X (some e) (tO X.K (gm y)):=(AM h).imp' fun M H Q z=>by
 obtain⟨F,m,L,S,d,O,r,l,q,k⟩:=z;obtain⟨x,b,a,q⟩:=ai q;cases x with
 | int i=>cases q;exact⟨F,m,L,S,_,_,r,l,a,fun v C s I f n p=>⟨i,p,k C s I f n⟩⟩
 | _=>cases q
noncomputable def cut (xs:List q) (lo h:Option Int):List q:=(xs.drop (HT.eC xs.length 0 lo)).take (HT.eC xs.length xs.length h-HT.eC xs.length 0 lo)
theorem cA.cut (r:cA K F H k xs) (lo h:Option Int):cA K F H (Ev.cut k lo h) (tH xs lo h):=by unfold Ev.cut tH;rw [r.length];exact (r.drop _).take _
noncomputable def Ll:P->Option Int->Option Int->Option P
 | .lst xs,lo,h=>some (.lst (cut xs lo h))
 | .ro xs,lo,h=>some (.lst (cut xs lo h))
 | .tup xs,lo,h=>if HT.eC xs.length 0 lo=0/\HT.eC xs.length xs.length h=xs.length then none else some (.tup (cut xs lo h))
 | _,_,_=>none
theorem _root_.L2.PI.imp' (h:PI X r iter t) (i:∀M H R,k M H R->t M H R):PI X r iter k:=fun p s M H R I q=>h p s M H R I (i M H R q)
theorem y_ (f:∀B h Y,Stp F m H B h Y->gY K Y a xs) (r:cA K F H U xs):Cb K (Ie K a) U F m H:=by
 intro B h Y s;have q:=f B h Y s;have k:=cA.mono s r;refine⟨fun i v e=>?_,⟨xs,q,by rw [k.length];exact Nat.le_refl _⟩⟩;obtain⟨x,n,p⟩:=k.get e;refine⟨⟨xs,x,q,n⟩,fun y b z=>?_⟩;obtain⟨rfl,z⟩:=z;have:=z xs q
 rw [n] at this;cases this;exact⟨B,.refl,p⟩
theorem DR (k:TupAt K H a xs) (r:cA K F H U xs):Cb K (Kr K a) U F m H:=by
 intro B b Y s;have q:=(k.kp s.kp).sq;have n:=cA.mono s r;refine⟨fun i v e=>?_,⟨xs,q,by rw [n.length];exact Nat.le_refl _⟩⟩;obtain⟨x,h,p⟩:=n.get e;refine⟨⟨xs,x,q,h⟩,fun y f z=>?_⟩;obtain⟨rfl,z⟩:=z;have:=z xs q
 rw [h] at this;cases this;exact⟨B,.refl,p⟩
noncomputable def intsFrom (lo:Int) (n:Nat):List P:=(List.range n).map fun (i:Nat)=>.int (lo+(i:Int))
noncomputable def gW (a:EV):gj:=fun L S=>aL (a L S) fun v h=>match v with
 | .int j=>if decide (j.natAbs < 1000000)=true then some (intsFrom 0 j.toNat,h) else none
 | _=>none
theorem DS {lo:Int}:Cb K (Ic lo n) (intsFrom lo n) F m H:=by
 intro B k Y s;have l:(intsFrom lo n).length=n:=by unfold intsFrom;simp
 refine⟨fun i v e=>?_,by show n≤(intsFrom lo n).length;rw [l];exact Nat.le_refl _⟩;have h:i < n:=by rw [<- l];exact (List.getElem?_eq_some_iff.mp e).1
 refine⟨h,fun x a z=>?_⟩;obtain⟨rfl,rfl⟩:=z;refine⟨B,.refl,?_⟩;unfold intsFrom at e;simp [h] at e;subst e;exact rfl
theorem KW {w a:Expr}{y:EV}{p N:Pos} (g:Gl X "range") (n:X.mg "range"=none) (s:PE X a (tV X.K y)) (h:starEach [a] X.env=[(false,eval a X.env)]:=by rfl):PI X w (.Call (.Name "range" p) [a] [] N) (tI X.K (gW y)):=
 (wT g n (eY s hX (by rw [h];rfl)) h).imp' fun M H R z=>by
  obtain⟨F,m,L,S,U,O,r,l,q,k⟩:=z;obtain⟨v,u,e,q⟩:=ai q;cases v with
  | int j=>
   dsimp only at q;split at q
   .rename_i c;have i:j.natAbs < 1000000:=of_decide_eq_true c;cases q;refine⟨F,m,L,S,_,_,r,l,e,fun x C f I d t b=>?_⟩;cases (show x=.int j from b);exact⟨j,rfl,by lia,by lia,k _ C f I d t DS⟩
   .cases q
  | _=>cases q
end
noncomputable def br (g:iY) (c:EB) (e:EV):List P->Lc->aJ->Option (List P×aJ)
 | [],_,S=>some ([],S)
 | v::r,L,S=>match g v L with
  | none=>none
  | some h=>aL (c h S) fun k x=>if k=true then aL (e h x) fun y a=>aL (br g c e r h a) fun n s=>some (y::n,s) else br g c e r h x
noncomputable def jI (j:List Nat) (n:Nat) (L:List (Option q)):List (Option q):=(j.foldl (fun L i=>L.set i none) L)++List.replicate n none
noncomputable def aY (i:gj) (j:List Nat) (n:Nat) (g:iY) (c:EB) (e:EV):EV:=fun L S=>aL (i L S) fun xs h=>if few xs=true then aL (br g c e xs (jI j n L) h) fun y x=>some (.lst y,x) else none
noncomputable def eT:EB:=fun _ S=>some (true,S)
theorem fM (j:List Nat):∀L:List (Option q),(j.foldl (fun L i=>L.set i none) L).length=L.length:=by
 induction j with
 | nil=>intro L;rfl
 | cons t j h=>intro L;rw [gF,h,fq]
theorem om (j:List Nat):∀(L:List (Option q)) (i:Nat) (d:q),(j.foldl (fun L i=>L.set i none) L)[i]? = some (some d)->L[i]? = some (some d)/\i ∉ j:=by
 induction j with
 | nil=>intro L i d h;exact⟨h,by simp⟩
 | cons t j s=>
  intro L i d h;rw [gF] at h;obtain⟨x,a⟩:=s _ _ _ h;by_cases e:t=i
  .subst e;by_cases l:t < L.length
   .rw [cL l] at x;cases x
   .rw [List.getElem?_eq_none (by rw [fq];lia)] at x;cases x
  .rw [bt e] at x;exact⟨x,by simp [a];exact fun z=>e z.symm⟩
theorem qe (j:List Nat) (n:Nat) (L:List (Option q)):(jI j n L).length=L.length+n:=by unfold jI;rw [cO,fM,List.length_replicate]
theorem vo (h:(jI j n L)[i]? = some (some d)):L[i]? = some (some d)/\i ∉ j/\i < L.length:=by
 unfold jI at h;by_cases x:i < L.length
 .rw [List.getElem?_append_left (by rw [fM];exact x)] at h;obtain⟨a,e⟩:=om j L i d h;exact⟨a,e,x⟩
 .rw [fZ (by rw [fM];lia),t_] at h;split at h <;> cases h
variable {M:L2.St}
theorem RL.up (l:RL K F H m M L) (j:List Nat) (n:Nat):RL K F H m (jI j n M) (jI j n L):=by
 refine⟨by rw [qe,qe,l.len],fun i d h=>?_⟩;obtain⟨a,s,f⟩:=vo h;obtain⟨v,e,r⟩:=l.at' i d a;refine⟨v,?_,r⟩;unfold jI;rw [List.getElem?_append_left (by rw [fM,l.len];exact f)];have k:∀(j:List Nat) (M:L2.St),i ∉ j->M[i]? = some (some v)->(j.foldl (fun L i=>L.set i none) M)[i]? = some (some v):=by
  intro j;induction j with
  | nil=>intro M _ e;exact e
  | cons t j b=>intro M x e;rw [gF];refine b _ (fun z=>x (bg _ z)) ?_;rw [bt (fun z=>x (by rw [z];exact List.mem_cons_self))];exact e
 exact k j M s e
noncomputable def lG (G:Scope) (e:Env):List (Str×Addr):=((G.names.filter fun x=>x.2 == .free).map fun x=>(x.1,(e.cells.lookup x.1).getD 0)).reverse
noncomputable def inn (X:Cx) (G:Scope) (u:LS) (s:Shared) (H:Hp) (C:Addr) (f:List Addr):Cx:=
 { X with N:=u,s₀:=s,H₀:=H,env:=compEnvC G (lG G X.env) C X.env,outer:=X.stack,ex:=f,fn:=fun _=>false,pn:=[],xe:=fun _ _=>False }
structure BlockOk (X:Cx) (scope:Scope) (N':LS) (ts:List Nat) (n:Nat):Prop where
 kind:scope.kind=.function
 cell:∀x ∈ scope.names,x.2≠.cell
 loc:∀x ∈ scope.names,x.2=.local->scope.names.lookup x.1=some .local
 fr:∀x ∈ scope.names,x.2=.free->scope.names.lookup x.1=some .free/\(X.env.kindOf x.1=some .cell\/X.env.kindOf x.1=some .free)
 names:X.N=N'.take X.N.length
 more:N'.length=X.N.length+n
 ts:∀x ∈ scope.names,x.2=.local->∀i:Nat,X.N[i]? = some x.1->i ∈ ts
theorem gL:∀{l:List (Str×q)}{x:Str}{v:q},l.lookup x=some v->(x,v) ∈ l
 | [],_,_,h=>by simp at h
 | (y,w)::r,x,v,h=>by
  rw [pI] at h;cases e:x == y with
  | true=>rw [e] at h;cases h;rw [show x=y from by simpa using e];exact List.mem_cons_self
  | false=>rw [e] at h;exact bg _ (gL h)
theorem jL:∀{l:List (Str×q)}{x:Str}{v:q},(x,v) ∈ l->∃w,l.lookup x=some w
 | [],_,_,h=>by simp at h
 | (y,w)::r,x,v,h=>by
  rw [pI];cases e:x == y with
  | true=>exact⟨w,rfl⟩
  | false=>
   rcases az.mp h with h | h
   .injection h with a _;subst a;simp at e
   .exact jL h
variable {x:Str}
theorem eX (h:(relabel G r).names.lookup x=some k):∃a,(x,a) ∈ G.names/\(k=a\/(k=.cell/\a=.free)):=by
 have m:=gL h;unfold relabel at m;obtain⟨⟨n,a⟩,t,e⟩:=cn.mp m;by_cases c:(a == NameKind.free && r.scope.kind == .function && r.kindOf n == some .cell)=true
 .have s:(n,NameKind.cell)=(x,k):=by simpa [c] using e
  injection s with f b;subst f;rw [Bool.and_eq_true,Bool.and_eq_true] at c;exact⟨a,t,.inr ⟨b.symm,by simpa using c.1.1⟩⟩
 .have s:(n,a)=(x,k):=by simpa [c] using e
  injection s with f b;subst f;exact⟨a,t,.inl b.symm⟩
section
variable {X:Cx}{G:Scope}{u:LS}{j:List Nat}{n:Nat}
theorem BlockOk.cl (B:BlockOk X G u j n) (I:Inv X J M H s) (h:(lG G X.env).lookup x=some c):X.env.cells.lookup x=some c/\(x,NameKind.free) ∈ G.names:=by
 have t:=gL h;unfold lG at t;obtain⟨⟨y,k⟩,m,e⟩:=cn.mp (List.mem_reverse.mp t);obtain⟨m,d⟩:=fu.mp m;have r:k=.free:=by simpa using d
 subst r;injection e with q f;subst q;obtain⟨_,v⟩:=B.fr _ m rfl;obtain⟨p,a⟩:=I.ok.has y v;dsimp only at f;rw [a] at f;have b:p=c:=f;subst b;exact⟨a,m⟩
theorem BlockOk.has (B:BlockOk X G u j n) (h:(x,NameKind.free) ∈ G.names):∃c,(lG G X.env).lookup x=some c:=by unfold lG;exact jL (v:=(X.env.cells.lookup x).getD 0) (List.mem_reverse.mpr (cn.mpr ⟨(x,.free),fu.mpr ⟨h,by simp⟩,rfl⟩))
theorem zl (B:BlockOk X G u j n) (I:Inv X r M H s) (C:s.heap.objs.size≤k) (f:∀b ∈ t,rT X r H b) (d:∀b ∈ t,b < s.heap.objs.size) :
  (inn X G u s H k t).Ok where
 mod:=I.ok.mod
 kind:=B.kind
 glob:=I.ok.glob
 blt:=I.ok.blt
 above:=C
 inj:=fun x y c q v=>I.ok.inj x y c (B.cl I q).1 (B.cl I v).1
 has:=fun x h=>by
  have p:(relabel G X.env).names.lookup x=some .cell\/(relabel G X.env).names.lookup x=some .free:=h;rcases p with h | h
  .obtain⟨w,m,e | ⟨_,e⟩⟩:=eX h
   .subst e;exact absurd rfl (B.cell _ m)
   .subst e;exact B.has m
  .obtain⟨w,m,e | ⟨e,_⟩⟩:=eX h
   .subst e;exact B.has m
   .cases e
 cab:=fun x c h=>nomatch h
 hd:=I.ok.hd
 frames:=I.ok.frames
 stk:=.inl rfl
 exf:=fun b a=>⟨b_ (cq (d b a) C),fun x c h=>(f b a).2.2.2.2.1 x c (B.cl I h).1⟩
 bs:=I.bs
 bsz:=aU I.ok.bsz I.sz
 noex:=fun b o e a=>by
  rcases (f b a).2.2.2.1 with z | z
  .exact I.ok.noex b o e z
  .exact absurd (cq (Heap.lt_size (I.ok.bs b o e).1) z) (i5 _)
 exfs:=fun b a z=>by
  rcases az.mp (I.stkSub b z) with z | z
  .exact (f b a).2.1 z
  .exact (f b a).2.2.1 z
 funs:=I.stack
 frf:=I.stkFree
theorem _root_.L2.Un.sameBut (u:Un fs r H H' h t) (s:Heap.SameBut k t J) (C:∀b o,h.get? b=some o->b≠k):Un fs r H H' h J where
 keep:=fun b o e n a x=>s.extBut b o (C b o e) (u.keep b o e n a x)
 slot:=fun b o e n a x=>by obtain⟨l,q⟩:=u.slot b o e n a x;exact⟨l,s.extBut b _ (C b o e) q⟩
 free:=u.free
 there:=fun b o e x=>by obtain⟨f,q⟩:=u.there b o e x;exact⟨f,s.extBut b _ (C b o e) q⟩
 tups:=u.tups
 frzs:=u.frzs
 tbls:=u.tbls
theorem _root_.L2.jH.sameBut {P:Program}{w:World}{H:Hp}{h x:Heap}{C:Addr} (ok:jH P w H h) (n:Heap.SameBut C h x) (a:H C=none):jH P w H x:=fun b u e=>
 (ok b u e).stay (fun c v s q=>n.extBut c v (by
  rintro rfl;rcases s with z | z
  .subst z;rw [a] at e;cases e
  .rw [a] at z;cases z) q) (fun _ q=>q) fun _ _ q=>q
inductive PIfs (X:Cx):Ab->EB->Prop where
 | none:PIfs X [] eT
 | one {c:Expr}{q:EB}:PT X c (tQ X.K q)->PIfs X [c] q
theorem Kp.bump (x:¬F p) (t:∀xs,H p≠some (.tup xs)):Kp F m H F m (cm H p o):=
 ⟨⟨[],by simp⟩,fun _ h=>h,fun b u f h=>by rw [aE (by rintro rfl;exact x f)];exact h,fun b xs h=>by rw [aE (by rintro rfl;exact t xs h)];exact h⟩
theorem Stp.bump (s:Stp F m H F' m' H') (x:H p=none):Stp F m H F' m' (cm H' p o) where
 pre:=s.pre
 oth:=fun b u h a=>by rw [aE (by rintro rfl;rw [x] at h;cases h)];exact s.oth b u h a
 frz:=s.frz
 frk:=fun b u f h=>by rw [aE (by rintro rfl;rw [x] at h;cases h)];exact s.frk b u f h
 tup:=fun b xs h=>by rw [aE (by rintro rfl;rw [x] at h;cases h)];exact s.tup b xs h
 trk:=fun b h=>by
  by_cases e:b=p
  .subst e;rw [aN];exact fun z=>nomatch z
  .rw [aE e];exact s.trk b h
 nf:=s.nf
 nm:=s.nm
theorem Rel.bump (r:Rel K F H m S) (x:¬F p) (s:p ∉ m) (t:∀xs,H p≠some (.tup xs)):Rel K F (cm H p o) m S:=
 r.stayK (Kp.bump x t) (fun a u e h=>by rw [aE (by rintro rfl;exact s e)];exact h) (fun _ f=>.inl f) fun a f=>by rw [aE (by rintro rfl;exact x f)];exact r.ft a f
theorem J5:Kp F m H (fun b=>F b\/b=p) m H:=⟨⟨[],by simp⟩,fun _ h=>.inl h,fun _ _ _ h=>h,fun _ _ h=>h⟩
theorem Stp.addF (s:Stp F m H F' m' H') (x:H p=none):Stp F m H (fun b=>F' b\/b=p) m' H':=
 ⟨s.pre,s.oth,fun b h=>.inl (s.frz b h),s.frk,s.tup,s.trk,fun b h=>by
  rcases h with h | h
  .exact s.nf b h
  .subst h;exact .inr (.inl x),s.nm⟩
theorem Rel.addF (r:Rel K F H m S) (s:p ∉ m) (n:H p≠none):Rel K (fun b=>F b\/b=p) H m S where
 len:=r.len
 nd:=r.nd
 obj:=fun i a o e x=>(r.obj i a o e x).kp J5 fun u h=>h
 sep:=fun i a o e x w f=>by
  rcases f with f | f
  .exact r.sep i a o e x w f
  .subst f;exact s (bA e)
 trk:=r.trk
 ft:=fun a f=>by
  rcases f with f | f
  .exact r.ft a f
  .subst f;exact n
theorem _root_.L2.Inv.letGo (I:Inv X k M H s) (f:Heap.SameBut h s.heap t) (C:H h=none) (v:X.s₀.heap.objs.size≤h) (d:h≠X.env.locals)
  (w:∀x c,X.env.cells.lookup x=some c->c≠h) (u:∀p ∈ X.pn++k,p.1≠h):Inv X k M H { s with heap:=t }:=by
 have r:∀b:Addr,b ∉ [h]->b≠h:=fun b m z=>m (by simp [z]);refine I.call' (z:={ s with heap:=t }) (N:=[h]) rfl ⟨fun b o e _ _ a=>f.extBut b o (r b a) e,fun b o e _ _ a=>⟨o.slots,f.extBut b o (r b a) e⟩,fun _ _ _ n _=>n,fun b o e a=>⟨o,f.extBut b o (r b a) e⟩,fun _ _ q=>q,fun _ _ _ q=>q,fun b g q=>⟨#[],by rw [q];simp⟩⟩ (I.hok.sameBut f C) I.bare fun b m=>?_;have e:b=h:=by simpa using m
 subst e;exact⟨.inr v,d,w,u⟩
theorem xz (I:Nat->Shared->Prop)
  (u:∀n s,I n s->wpAny (model t w) A (pyNext it) (fun r f=>match r with
   | none=>R (.ok .next) f
   | some v=>wpAny (model t w) A (letOwnedTupleGo tg it v) (fun _ d=>wpAny (model t w) A (assign tg k v) (fun _ g=>
     wpAny (model t w) A (forIn ifs true fun c r=>if r=true then do let ok <- isTrue c k (eval c k);pure (ForInStep.yield ok) else pure (ForInStep.yield r)) (fun ok b=>
      if ok=true then wpAny (model t w) A (eval elt k) (fun x i=>
       wpAny (model t w) A (call (.builtin "list.append") [J,x]) (fun _ j=>∃m,m < n/\I m j) (notedBy (model t w) A k fun e a=>R (.error e) a) i) (notedBy (model t w) A k fun e a=>R (.error e) a) b
      else ∃m,m < n/\I m b) (notedBy (model t w) A k fun e a=>R (.error e) a) g) (notedBy (model t w) A k fun e a=>R (.error e) a) d) (notedBy (model t w) A k fun e a=>R (.error e) a) f) (notedBy (model t w) A k fun e a=>R (.error e) a) s)
  (n:Nat) (h:I n s):codeAny (model t w) A (.compLoop (.ListComp elt [⟨tg,iter,ifs,0⟩] G N) 0 it J k) R s:=by
 refine codeAny_loop rfl I (fun n s S=>?_) n h;show wpAny _ A ((compTurn (.ListComp elt [⟨tg,iter,ifs,0⟩] G N) 0 it J k).onRaise (fun x=>do noteFrame x k;theTreesLotGoes x)) _ _ s;refine wpAny_noted ?_;rw [compTurn_list];refine wpAny_bind (wpAny_standAt (wpAny_bind (wpAny_mono (u n s S) (fun r f p=>?_) fun _ _ z=>z)));cases r with
 | none=>exact wpAny_pure p
 | some v=>
  refine wpAny_bind (wpAny_mono p (fun _ d l=>wpAny_bind (wpAny_mono l (fun _ g y=>wpAny_bind (wpAny_mono y (fun ok b q=>?_) fun _ _ z=>z)) fun _ _ z=>z)) fun _ _ z=>z);cases ok with
  | false=>exact wpAny_pure ⟨rfl,q⟩
  | true=>exact wpAny_bind (wpAny_bind (wpAny_mono q (fun x i o=>wpAny_bind (wpAny_mono o (fun _ j H=>wpAny_pure (wpAny_pure ⟨rfl,H⟩)) fun _ _ z=>z)) fun _ _ z=>z))
theorem Bt {w:Heap}{tk:Nat} (B:BlockOk X G u j n) (I:Inv X J M Y k) (C:k.heap.objs.size≤h) (V:∀b ∈ fp,rT X J Y b) (K:∀b ∈ fp,b < k.heap.objs.size) (l:∀b o,k.heap.get? b=some o->w.get? b=some o)
  (W:Y k.heap.objs.size=none) (D:k.heap.objs.size≠h) (F:Y h=none) (t:w.Ns h mC) (O:w.get? k.heap.objs.size=some { cls:=.type "list",dict:=none,data:=.seq ([]:LV).toArray }) :
  Inv (inn X G u k Y h fp) [] (jI j n M) (cm Y k.heap.objs.size (.lst [])) { k with heap:=w,toks:=tk }:=by
 refine⟨zl B I C V K,rfl,I.bare,Un.laid l (Nat.le_refl _) W,?_,fun x c e=>?_,?_,fun x c e=>?_,fun p hp=>absurd (show p ∈ ([]:PN) from hp) (by simp),?_,?_⟩
 .obtain⟨m0,Z,P⟩:=I.loc;refine⟨_,t,fun i x v R T hv=>?_⟩;obtain⟨g,H,S⟩:=vo T;have r:M.length=X.N.length:=I.len;have L:X.N[i]? = some x:=by
   rw [B.names,iq (by rw [<- r];exact S)];exact R
  have d:(relabel G X.env).names.lookup x=some .local\/(relabel G X.env).names.lookup x=some .cell\/(relabel G X.env).names.lookup x=some .free:=hv;have Q:¬(relabel G X.env).names.lookup x=some .local:=fun z=>by
   obtain⟨N,m,e | ⟨e,_⟩⟩:=eX z
   .subst e;exact absurd (B.ts _ m rfl i L) H
   .cases e
  have E:(x,NameKind.free) ∈ G.names:=by
   rcases d with z | z | z
   .exact absurd z Q
   .obtain⟨N,m,e | ⟨_,e⟩⟩:=eX z
    .subst e;exact absurd rfl (B.cell _ m)
    .subst e;exact m
   .obtain⟨N,m,e | ⟨e,_⟩⟩:=eX z
    .subst e;exact m
    .cases e
  obtain⟨_,f⟩:=B.fr _ E rfl;have A:Ed X.env.scope x:=by
   rcases f with z | z
   .exact .inr (.inl z)
   .exact .inr (.inr z)
  obtain⟨a,ru,lk⟩:=P i x v L g A;refine⟨a,ru,.inr ⟨?_,?_⟩⟩
  .rcases d with z | z | z
   .exact absurd z Q
   .exact .inl z
   .exact .inr z
  .rcases lk with ⟨z,_⟩ | ⟨_,c,U,ic⟩
   .rcases f with y | y
    .rw [z] at y;cases y
    .rw [z] at y;cases y
   .obtain⟨c',s⟩:=B.has E;have:=(B.cl I s).1
    rw [U] at this;cases this;obtain⟨o,q,hd⟩:=ic;exact⟨c,s,o,l c o q,hd⟩
 .obtain⟨v,o,q,hd⟩:=I.cell x c (B.cl I e).1;exact⟨v,o,l c o q,hd⟩
 .show cm Y k.heap.objs.size (.lst []) h=none;rw [aE (Ne.symm D)];exact F
 .obtain⟨v,o,q,hd⟩:=I.cell x c (B.cl I e).1;rw [aE (b_ (Heap.lt_size q))];exact I.freeC x c (B.cl I e).1
 .exact I.hok.laid l (Nat.le_refl _) ⟨Nat.zero_le _,[],0,.nil,O⟩
 .show (jI j n M).length=u.length;rw [qe,I.len,B.more]
inductive cIv (K:FG) (Y:Cx) (F1:Aa) (m1:List Addr) (H2:Hp) (A:Addr) (tn:Nat->Heap->Prop) (fp:List Addr) (R:Nat->Nat->Lc->aJ->List P->Prop) (ys:List P) (nn:Nat) (sx:Shared):Prop
 | mk (i:Nat) (σ':L2.St) (F':Aa) (m':List Addr) (H':Hp) (L':Lc) (S':aJ) (acc cu:List P) (xs:List V) (h0_:Inv Y [] σ' H' sx) (h1_:tn i sx.heap) (h2_:∀b ∈ fp,H' b=none) (h3_:Stp F1 m1 H2 F' m' H') (h4_:Rel K F' H' m' S') (h5_:RL K F' H' m' σ' L') (h6_:H' A=some (.lst xs)) (h7_:cA K F' H' acc xs) (h8_:acc.length≤i) (h9_:¬F' A) (ha_:A ∉ m') (hb_:R nn i L' S' cu) (hc_:acc++cu=ys):cIv K Y F1 m1 H2 A tn fp R ys nn sx
theorem ph 
  (B:BlockOk X G u j n) (hcalm:X.calm=true)
  (hi:PI X tg iter (tI X.K fi)) (hg:∀s H h D,PG (inn X G u s H h D) tg (gT X.K g)) (hc:∀s H h D,PIfs (inn X G u s H h D) ifs fc) (he:∀s H h D,PE (inn X G u s H h D) elt (tV X.K fe))
  (hclos:closureFor G X.env=pure (lG G X.env)) (hs:∀x,foldedSetIterable iter X.env x=pure x)
  (a:Inv X pins M H s) (r:Rel X.K F H m S) (l:RL X.K F H m M L) (q:aY fi j n g fc fe L S=some (d,S2))
  (fin:∀p F' m' H' sx h,Inv X pins M H' sx->Stp F m H F' m' H'->Rel X.K F' H' m' S2->RP X.K F' H' d (.ref p)->H' h=none->X.s₀.heap.objs.size≤h->h≠X.env.locals->(∀x c,X.env.cells.lookup x=some c->c≠h)->(∀p ∈ X.pn++pins,p.1≠h) ->
   (∃mC,sx.heap.Ns h mC)->compPost (model X.prog X.w) X.A X.xe use k (.ref p) h (.ok .next) sx) :
  wpAny (model X.prog X.w) X.A (comprehension (.ListComp elt [⟨tg,iter,ifs,0⟩] G N) G X.env p2 (newList []) false (eval iter X.env) use) k X.xe s:=by
 obtain⟨U,S1,e1,q⟩:=ai q;split at q;case isFalse=>cases q
 rename_i hfew;obtain⟨ys,S2',e2,q⟩:=ai q;cases q;refine wpAny_comprehension_free (use:=use) rfl hs hclos B.kind B.loc (cY (hi pins s M H _ a ⟨F,m,L,S,U,S1,r,l,e1,fun J C m1 I s1 r1 it=>(show (fun J I=>∃C m1,Stp F m H C m1 I/\Rel X.K C I m1 S1/\Cb X.K J U C m1 I) J I from ⟨C,m1,s1,r1,it⟩)⟩) fun xv sA hA=>cY hA fun itv P h2=>?_);obtain⟨it,D,tn,J,Y,rfl,I2,T,st2,f2,C,m1,s1,r1,itp⟩:=h2;have hfp:∀b ∈ D,b < P.heap.objs.size:=fun b E=>by obtain⟨o,e,_⟩:=T.obj _ _ st2 b E;exact Heap.lt_size e
 refine wpAny_newObj_type ?_ (by show 0≤sizeLine;exact Nat.zero_le _);refine wpAny_newFunctionEnv B.cell (by intro y hy;simp at hy) (fun h1 hns1 hsb1=>?_) B.kind;dsimp only at hns1 hsb1 ⊢;have hD:Y P.heap.objs.size=none:=I2.hok.fresh (Nat.le_refl _);generalize hH2:P.heap.push { cls:=.type "list",dict:=none,data:=.seq ([]:LV).toArray }=K at hns1 hsb1 ⊢;have hC:K.objs.size=P.heap.objs.size+1:=by rw [<- hH2,Heap.size_push]
 have A:P.heap.objs.size≤K.objs.size:=by rw [hC];exact mB _
 have old:∀b o,P.heap.get? b=some o->h1.get? b=some o:=fun b o e=>hsb1.extBut b o (b_ (cq (Heap.lt_size e) A)) (Heap.get?_push_of_some _ (hH2 ▸ Heap.get?_push_of_some _ e));have hDC:P.heap.objs.size≠K.objs.size:=by rw [hC];exact b_ (pK _)
 have accO:h1.get? P.heap.objs.size=some { cls:=.type "list",dict:=none,data:=.seq ([]:LV).toArray }:=hsb1.extBut _ _ hDC (Heap.get?_push_of_some _ (hH2 ▸ Heap.get?_push_size _ rfl));have hCn:Y K.objs.size=none:=I2.hok.fresh A;have hCcell:∀x c,X.env.cells.lookup x=some c->c≠K.objs.size:=fun x c e z=>by obtain⟨v,o,ho,_⟩:=I2.cell x c e;exact absurd (Heap.lt_size ho) (Nat.not_lt.mpr (by rw [z];exact A))
 have hCloc:K.objs.size≠X.env.locals:=cK (cq I2.lt A);have hCpin:∀p ∈ X.pn++pins,p.1≠K.objs.size:=fun p hp z=>absurd (Heap.lt_size (I2.pin p hp).1) (Nat.not_lt.mpr (by rw [z];exact A));have I3:=Bt (tk:=P.toks+([]:List (Str×Value)).length) B I2 A f2 hfp old hD hDC hCn hns1 accO;have okX:=zl (k:=K.objs.size) B I2 A f2 hfp;have fpH:∀{H':Hp},(∀b ∈ D,H' b=none)->∀b ∈ D,rT (inn X G u P Y K.objs.size D) [] H' b:=fun hn b E=>
  ⟨hn b E,b_ (cq (hfp b E) A),okX.exfs b E,.inl E,(okX.exf b E).2,fun p hp=>absurd (show p ∈ ([]:PN) from hp) (by simp)⟩
 have tn1:tn 0 h1:=T.keep _ _ _ st2 fun b E o e=>old b o e;have loop:∀s3:Shared,s3={ P with heap:=h1,toks:=P.toks+([]:List (Str×Value)).length } ->
   codeAny (model X.prog X.w) X.A (.compLoop (.ListComp elt [⟨tg,iter,ifs,0⟩] G N) 0 (.ref it) (.ref P.heap.objs.size) (compEnvC G (lG G X.env) K.objs.size X.env))
    (compPost (model X.prog X.w) X.A X.xe use k (.ref P.heap.objs.size) K.objs.size) s3:=by
  rintro s3 rfl;refine xz (cIv X.K (inn X G u P Y K.objs.size D) C m1 Y P.heap.objs.size tn D (fun nn i L' O cu=>nn=U.length-i/\i≤U.length/\br g fc fe (U.drop i) L' O=some (cu,S2)) ys) ?_ U.length ?_
  .rintro nn sx ⟨i,σ',F',m',H',L',O,acc,cu,xs,I',tn',fr',st',r',l',Z,ra,hal,nF,nm,⟨rfl,hi',R⟩,rfl⟩;obtain⟨hgo,hstop⟩:=itp F' m' H' st';by_cases hlt:i < U.length
   .have hv:U[i]? = some U[i]:=by simp [hlt]
    rw [List.drop_eq_getElem_cons hlt] at R;obtain⟨hgo1,hy⟩:=hgo i _ hv;refine wpAny_mono (T.item (inn X G u P Y K.objs.size D) rfl rfl rfl hcalm i [] sx σ' H' (fun _ _=>False) I' (fpH fr') tn' hgo1) (fun rr sy hr=>?_) (fun _ _ f=>f.elim);obtain⟨t,rfl,hr⟩:=hr;refine wpAny_mono hr (fun _ sz hz=>?_) (fun _ _ f=>f.elim);obtain⟨x,H3,I4,rx,yl,tn4,fr4⟩:=hz;obtain⟨F3,gr,p3⟩:=hy x H3 yl;have Fs:Stp C m1 Y F3 m' H3:=st'.trans gr.stp;have r4:=r'.grow gr;have l4:=l'.mono (gr.stp (m:=m'));have acc4:=gr.keep _ _ Z;have nF4:¬F3 P.heap.objs.size:=fun z=>by
     rcases gr.nf _ z with z | ⟨z,_⟩
     .exact nF z
     .rw [Z] at z;cases z
    have I4':=I4.pinned (fpH fr4) (T.obj _ _ tn4);have back:∀{σ7:L2.St}{H7:Hp}{s7:Shared},Inv (inn X G u P Y K.objs.size D) ([]++lc D sz.heap) σ7 H7 s7->tn (i+1) s7.heap/\∀b ∈ D,H7 b=none:=fun {σ7 H7 s7} I7=>
     ⟨T.keep _ _ _ tn4 fun b E o e=>(I7.pin (b,o) (fY _ (fY _ (iF E e)))).1,fun b E=>by obtain⟨o,e,dd⟩:=T.obj _ _ tn4 b E;exact (I7.pin (b,o) (fY _ (fY _ (iF E e)))).2.1⟩
    unfold br at R;cases eg:g U[i] L' with
    | none=>rw [eg] at R;cases R
    | some L1=>
     rw [eg] at R;dsimp only at R;obtain⟨kk,S5,e5,R⟩:=ai R;refine wpAny_mono (hg P Y K.objs.size D _ sz σ' H3 x t (fun Q H5=>H5=H3/\RL X.K F3 H3 m' Q L1) I4' rx ⟨F3,m',L',U[i],L1,l4,p3,eg,fun Q l5=>⟨rfl,l5⟩⟩) (fun _ s5 h5=>?_) (fun _ _ f=>f.elim);obtain⟨Q,H5,I5,rfl,l5⟩:=h5;have test:wpAny (model X.prog X.w) X.A (forIn ifs true fun c r=>if r=true then do let ok <- isTrue c (compEnvC G (lG G X.env) K.objs.size X.env) (eval c (compEnvC G (lG G X.env) K.objs.size X.env));pure (ForInStep.yield ok) else pure (ForInStep.yield r))
       (fun ok s6=>ok=kk/\∃V m6 H6,Inv (inn X G u P Y K.objs.size D) ([]++lc D sz.heap) Q H6 s6/\Stp F3 m' H5 V m6 H6/\Rel X.K V H6 m6 S5) (fun _ _=>False) s5:=by
      have hcc:=hc P Y K.objs.size D;cases hcc with
      | none=>cases e5;exact wpAny_tests_nil ⟨rfl,F3,m',H5,I5,.refl,r4⟩
      | one hq=>refine wpAny_tests_one (wpAny_mono (hq _ s5 Q H5 (fun b H6=>b=kk/\∃V m6,Stp F3 m' H5 V m6 H6/\Rel X.K V H6 m6 S5) I5 ⟨F3,m',L1,O,kk,S5,r4,l5,e5,fun V m6 H6 s6 r6=>⟨rfl,V,m6,s6,r6⟩⟩) (fun b s6 h6=>?_) fun _ _ f=>f);obtain⟨H6,I6,rfl,V,m6,yc,r6⟩:=h6;exact⟨rfl,V,m6,H6,I6,yc,r6⟩
     refine wpAny_mono test (fun ok s6 h6=>?_) (fun _ _ f=>f.elim);obtain⟨rfl,V,m6,H6,I6,yc,r6⟩:=h6;have W:=yc.oth _ _ acc4 nm;have nm6:P.heap.objs.size ∉ m6:=fun z=>by
      rcases yc.nm _ z with z | z
      .exact nm z
      .rw [acc4] at z;cases z
     have nF6:¬V P.heap.objs.size:=fun z=>by
      rcases yc.nf _ z with z | z | z
      .exact nF4 z
      .rw [acc4] at z;cases z
      .exact nm z
     have ra6:=cA.mono yc (ra.grow gr);have l6:=l5.mono yc;cases ok with
     | false=>rw [if_neg bZ] at R ⊢;obtain⟨t7,f7⟩:=back I6;exact⟨U.length-(i+1),by lia,i+1,Q,V,m6,H6,L1,S5,acc,cu,xs,I6.pins_of fun p hp=>absurd hp (by simp),t7,f7,Fs.trans yc,r6,l6,W,ra6,Nat.le_succ_of_le hal,nF6,nm6,⟨rfl,hlt,R⟩,rfl⟩
     | true=>
      rw [if_pos rfl] at R ⊢;obtain⟨y,S8,e8,R⟩:=ai R;obtain⟨zs,S9,e9,R⟩:=ai R;cases R;refine wpAny_mono (he P Y K.objs.size D _ s6 Q H6 (fun v8 H8=>∃F8 m8,Stp V m6 H6 F8 m8 H8/\Rel X.K F8 H8 m8 S8/\RP X.K F8 H8 y v8) I6 ⟨V,m6,L1,S5,y,S8,r6,l6,e8,fun v8 F8 m8 H8 s8 r8 p8=>⟨F8,m8,s8,r8,p8⟩⟩) (fun u8 s8 h8=>?_) (fun _ _ f=>f.elim);obtain⟨v8,H8,I8,rv8,F8,m8,st8,r8,p8⟩:=h8;have acc8:=st8.oth _ _ W nm6;have nm8:P.heap.objs.size ∉ m8:=fun z=>by
       rcases st8.nm _ z with z | z
       .exact nm6 z
       .rw [W] at z;cases z
      have nF8:¬F8 P.heap.objs.size:=fun z=>by
       rcases st8.nf _ z with z | z | z
       .exact nF6 z
       .rw [W] at z;cases z
       .exact nm6 z
      have ra8:=cA.mono st8 ra6;have nt8:∀zs,H8 P.heap.objs.size≠some (.tup zs):=fun zs z=>by rw [acc8] at z;cases z
      have hl8:xs.length < sizeLine:=by have h9:U.length≤1000000:=of_decide_eq_true hfew;rw [<- ra8.length];exact cq (kU hal hlt) (aU h9 (by decide))
      refine wpAny_mono (o4 (X:=inn X G u P Y K.objs.size D) _ s8 Q H8 (.ref P.heap.objs.size) [v8] (.ref P.heap.objs.size) [u8] (fun _ H9=>H9=cm H8 P.heap.objs.size (.lst (xs++[v8]))) I8 rfl (.cons rv8 .nil) ⟨_,xs,v8,rfl,rfl,acc8,hl8,rfl⟩) (fun _ s9 h9=>?_) (fun _ _ f=>f.elim);obtain⟨_,H9,I9,_,rfl⟩:=h9;obtain⟨t9,f9⟩:=back I9;have kb:Kp F8 m8 H8 F8 m8 (cm H8 P.heap.objs.size (.lst (xs++[v8]))):=Kp.bump nF8 nt8;have st9:Stp C m1 Y F8 m8 (cm H8 P.heap.objs.size (.lst (xs++[v8]))):=(Fs.trans (yc.trans st8)).bump hD;have l9:RL X.K F8 (cm H8 P.heap.objs.size (.lst (xs++[v8]))) m8 Q L1:=⟨l6.len,fun w dd e=>by obtain⟨v,e1,rr⟩:=(l6.mono st8).at' w dd e;exact⟨v,e1,RD.kp kb rr⟩⟩
      exact⟨U.length-(i+1),by lia,i+1,Q,F8,m8,_,L1,S8,acc++[y],zs,xs++[v8],I9.pins_of fun p hp=>absurd hp (by simp),t9,f9,st9,r8.bump nF8 nm8 nt8,l9,aN,
       cA.kp kb (ra8.append ⟨v8,[],rfl,p8,rfl⟩),by rw [cO];exact Nat.succ_le_succ hal,nF8,nm8,⟨rfl,hlt,e9⟩,by simp⟩
   .have e:i=U.length:=by lia
    subst e;rw [pX] at R;cases R;refine wpAny_mono (T.done (inn X G u P Y K.objs.size D) rfl rfl rfl hcalm U.length [] sx σ' H' (fun _ _=>False) I' (fpH fr') tn' hstop) (fun rr sy hr=>?_) (fun _ _ f=>f.elim);obtain⟨rfl,I5⟩:=hr;rw [List.append_nil] at *
    have Iout:Inv X pins M H' sy:=I2.call' (N:=D) I5.os I5.base I5.hok I5.bare fun b E=>⟨(f2 b E).2.2.2.1,(f2 b E).2.1,(f2 b E).2.2.2.2.1,(f2 b E).2.2.2.2.2⟩;have hD0:H P.heap.objs.size=none:=by
     cases q:H P.heap.objs.size with
     | none=>rfl
     | some o=>exact absurd hD (s1.trk _ (by rw [q];exact fun z=>nomatch z))
    have hCH:H' K.objs.size=none:=I5.free;obtain⟨mC,hmC,_⟩:=I5.loc;exact fin P.heap.objs.size (fun b=>F' b\/b=P.heap.objs.size) m' H' sy K.objs.size Iout ((s1.trans st').addF hD0) (r'.addF nm (by rw [Z];exact fun z=>nomatch z))
     ⟨_,xs,rfl,⟨.inr rfl,Z⟩,cA.kp (m:=m') J5 ra⟩ hCH (aU I2.sz A) hCloc hCcell hCpin ⟨mC,hmC⟩
  .exact⟨0,_,C,m1,_,jI j n L,S1,[],ys,[],I3,tn1,fun b E=>by rw [aE (b_ (hfp b E))];exact (f2 b E).1,(cc hD).stp,r1.grow (cc hD),((l.mono s1).mono (cc hD).stp).up j n,aN,rfl,Nat.zero_le _,r1.fresh_F hD,r1.fresh_m hD,⟨rfl,Nat.zero_le _,by rw [mF];exact e2⟩,rfl⟩
 exact codeAny_compStart_list (loop _ rfl) (T.self X.A 0 _ _ _ tn1 (loop _ rfl))
theorem E1 (B:BlockOk X G u j n) (c:X.calm=true)
  (D:PI X tg iter (tI X.K fi)) (A:∀s H C f,PG (inn X G u s H C f) tg (gT X.K g)) (K:∀s H C f,PIfs (inn X G u s H C f) J fc) (P:∀s H C f,PE (inn X G u s H C f) t (tV X.K fe))
  (o:closureFor G X.env=pure (lG G X.env)) (E:∀x,foldedSetIterable iter X.env x=pure x:=by intro _;rfl) :
  PE X (.ListComp t [⟨tg,iter,J,0⟩] G N) (tV X.K (aY fi j n g fc fe)):=by
 intro i s M H Q I ⟨F,m,L,S,d,O,r,h,q,k⟩;rw [eval_ListComp];refine ph B c D A K P o E I r h q fun p F' m' H' Z C e l U V z b v w y R=>?_
 obtain⟨T,a⟩:=R;exact⟨T,a,fun Y W=>⟨.ref p,H',e.letGo W z b v w y,rfl,k _ F' m' H' l U V⟩⟩
theorem EM (i:Nat) (hN:X.N.Nodup) (B:BlockOk X G u j n) (c:X.calm=true)
  (hi:PI X tg iter (tI X.K fi)) (hg:∀s H C f,PG (inn X G u s H C f) tg (gT X.K g)) (hc:∀s H C f,PIfs (inn X G u s H C f) J fc) (he:∀s H C f,PE (inn X G u s H C f) t (tV X.K fe))
  (o:closureFor G X.env=pure (lG G X.env)) (A:swapsWith (.ListComp t [⟨tg,iter,J,0⟩] G N) (some (.Name x px)) spos.line X.env=pure true:=by rfl)
  (hs:∀x,foldedSetIterable iter X.env x=pure x:=by intro _;rfl) (K:X.N[i]? = some x:=by rfl) (hx:Loc X.env.scope x:=by first | exact Or.inl rfl | exact Or.inr rfl)
  (hf:X.fn x=true\/X.env.scope.names.lookup x=some .local:=by first | exact .inl rfl | exact .inr rfl | assumption) :
  PS X (.Assign [.Name x px] (.ListComp t [⟨tg,iter,J,0⟩] G N) spos) (kP X.K (ao i (eV (aY fi j n g fc fe)))):=by
 intro y s M H D I ⟨F,m,L,S,fl,L',O,r,h,q,k⟩;obtain⟨d,S1,W,q⟩:=ai q;cases q;obtain⟨v,S2,Y,Z⟩:=ai W;cases Z;rw [exec_Assign_Name_used _ _ _ _ A];refine wpAny_bind (wpAny_standAt (wpAny_bind ?_));show wpAny _ _ (do let _ <- comprehension (.ListComp t [⟨tg,iter,J,0⟩] G N) G X.env _ (newList []) false (eval iter X.env) (some (assign (.Name x px) X.env))) _ _ s;refine wpAny_bind (wpAny_mono (ph (use:=some (assign (.Name x px) X.env)) (k:=fun _ E=>SP X y D .next E) B c hi hg hc he o hs I r h Y fun p F' m' H' sx C V l r' rp hC h0 T U h3 hz=>?_) (fun _ E hq=>wpAny_pure (wpAny_pure hq)) fun _ _ e=>e);obtain⟨mC,P⟩:=hz;refine wpAny_assign_Name (oU V hN K hx (v:=.ref p) rfl (fun E z w=>?_) hf);refine⟨mC,?_,fun h' sb=>⟨_,H',z.letGo sb hC h0 T U h3,k _ F' m' H' l r' ((h.mono l).set (d:=.p v) rp i)⟩⟩;obtain⟨a,R,b⟩:=w;refine P.sameBut R ?_;rcases b with b | b
 .rw [b];exact T
 .exact Ne.symm (U x a b)
end
end Ev
namespace Ev
open PySem PySem.Spec PyProof.Rows L2
section
variable {X:Cx}{a b e:Expr}{es:Ab}{C U:EV}{fs:gj}{J p:Pos}
noncomputable def u3:P->Option P
 | .int i=>some (.int (-i))
 | _=>none
theorem IB (f:PE X a (tV X.K C)):PE X (.UnaryOp .USub a J) (tV X.K (Cs u3 C)):=(FH Cu f).imp' fun N H Q z=>by
 obtain⟨F,m,L,S,d,t,r,l,q,k⟩:=z;obtain⟨x,w,n,q⟩:=ai q;cases x with
 | int i=>cases q;exact⟨F,m,L,S,_,_,r,l,n,fun v h b e s c p=>⟨i,p,k _ h b e s c rfl⟩⟩
 | _=>cases q
noncomputable def z6:P->String
 | .non=>"NoneType"
 | .bl _=>"bool"
 | .int _=>"int"
 | .str _=>"str"
 | .tup _=>"tuple"
 | .lst _=>"list"
 | .ro _=>"list"
 | .dct _ _=>"dict"
noncomputable def iG (T:String) (v:P):Bool:=z6 v == T || (T == "int" && z6 v == "bool")
theorem zN (T:∀K:FG,∀v:P,PySem.W.kitOne K (.type (z6 v)) (.type L)=some (iG L v)) :
  dh X (.builtin "isinstance") (fun m H Q=>∃F d x,m=[x,.ty L]/\RP X.K F H d x/\Q (.bl (iG L d)) H):=by
 intro B s N H m E Q I r h;obtain⟨F,d,x,rfl,pd,q⟩:=h;obtain⟨u,C,rfl,k,w⟩:=vals2 r;cases (show C=Value.type L from w);have e:=T X.K d;have f:∀l,EP X B N Q (.bool (iG L d)) { s with toks:=l }:=fun l=>⟨.bl (iG L d),H,I.tok _,rfl,q⟩
 cases d with
 | non=>cases (show x=.non from pd);exact gC I k (.non) e f
 | bl y=>cases (show x=.bl y from pd);exact gC I k (.bl y) e f
 | int y=>cases (show x=.int y from pd);exact gC I k (.int y) e f
 | str y=>cases (show x=.str y from pd);exact gC I k (.str y) e f
 | tup g=>obtain⟨a,m,rfl,t,j⟩:=pd;cases k;obtain⟨i,_,⟨o,b,c,_⟩,_⟩:=I.tuple t.sq;exact eI PySem.W.kitx_tuple I.kIn ⟨o,b,c⟩ e (fun z=>nomatch z) f
 | lst g=>obtain⟨a,m,rfl,t,j⟩:=pd;cases k;obtain⟨i,_,p,_⟩:=I.list t.sq;obtain⟨o,n,b,c,_⟩:=p;exact eI mV I.kIn ⟨o,b,c⟩ e (fun z=>nomatch z) f
 | ro g=>obtain⟨a,m,rfl,t,j⟩:=pd;cases k;obtain⟨i,_,p,_⟩:=I.list t.sq;obtain⟨o,n,b,c,_⟩:=p;exact eI mV I.kIn ⟨o,b,c⟩ e (fun z=>nomatch z) f
 | dct D O=>obtain⟨a,A,rfl,_,S,_⟩:=pd;exact gC I k (.dK S) e f
theorem y8 (K:FG) (v:P):PySem.W.kitOne K (.type (z6 v)) (.type "bool")=some (iG "bool" v):=by cases v <;> rfl
theorem y7 (K:FG) (v:P):PySem.W.kitOne K (.type (z6 v)) (.type "list")=some (iG "list" v):=by cases v <;> rfl
noncomputable def iV:List P->Option P
 | [.int i]=>some (.int i)
 | [.bl b]=>some (.int (if b then 1 else 0))
 | _=>none
theorem sk {K:FG}{F:Aa}{H:Hp}{d:P}{s:List V} (r:cA K F H [d] s):∃x,s=[x]/\RP K F H d x:=by obtain⟨x,h,rfl,p,a⟩:=r;cases (show h=[] from a);exact⟨x,rfl,p⟩
theorem Bw:dh X (.type "int") (rC X.K iV):=by
 intro B s N H n u Q I r h;obtain⟨F,e,d,f,a,q,k⟩:=h;unfold iV at q;split at q
 .cases q;obtain⟨x,rfl,p⟩:=sk a;exact pj B s N H _ u Q I r (.inl ⟨_,by rw [show x=_ from p],k _ F H .refl rfl⟩)
 .cases q;obtain⟨x,rfl,p⟩:=sk a;exact pj B s N H _ u Q I r (.inr ⟨_,by rw [show x=_ from p],k _ F H .refl rfl⟩)
 .cases q
noncomputable def lU:EE:=fun _ S=>some (.ref S.length,S++[.dct [] []])
theorem xR:PE X (.Dict [] [] J) (tE X.K lU):=yH.imp' fun N H Q z=>by obtain⟨F,m,L,S,d,x,r,l,q,k⟩:=z;cases q;intro p h;refine k (.ref p) F (m++[p]) _ (gq h) (r.own h ⟨[],aN,rfl,rfl⟩) ⟨p,rfl,?_⟩;rw [<- r.len,fZ (Nat.le_refl _)];simp
noncomputable def nT (k:bI) (v:D):List bI->List D->List bI×List D
 | h::s,w::x=>if h=k then (h::s,v::x) else (h::(nT k v s x).1,w::(nT k v s x).2)
 | _,_=>([k],[v])
noncomputable def jD (d:D) (S:aJ):Option (Nat×List bI×List D):=match d with
 | .ref i=>match S[i]? with
  | some (.dct k O)=>some (i,k,O)
  | _=>none
 | _=>none
theorem qx (h:jD r S=some (i,v,O)):r=.ref i/\S[i]? = some (.dct v O):=by
 unfold jD at h;split at h
 .split at h
  .rename_i e;cases h;exact⟨rfl,e⟩
  .cases h
 .cases h
noncomputable def oh (o:EE) (k v:EV):ES:=fun L S=>aL (v L S) fun y x=>aL (o L x) fun d a=>aL (k L a) fun z h=>match jD d h,cg z with
 | some (i,s,O),some e=>if (s.Nodup/\few s=true) then some (.nx,L,h.set i (.dct (nT e (.p y) s O).1 (nT e (.p y) s O).2)) else none
 | _,_=>none
theorem oY {K:FG}{F:Aa}{H:Hp}{m:List Addr}{k:bI}{y:D}{u:V} (t:RD K F H m y u):∀{v:List (bI×V)}{s:List D},(v.map (·.1)).Nodup->dA K F H m s (v.map (·.2)) ->
  (putK v k u).map (·.1)=(nT k y (v.map (·.1)) s).1/\dA K F H m (nT k y (v.map (·.1)) s).2 ((putK v k u).map (·.2))
 | [],s,_,r=>by have:s=[]:=iu r.length;subst this;exact⟨rfl,u,[],rfl,t,rfl⟩
 | (h,w)::v,[],_,r=>by have:=r.length;simp at this
 | (h,w)::v,d::s,i,r=>by
  obtain⟨x,G,e,E,j⟩:=r;rw [List.map_cons] at e i;injection e with o S;subst o;subst S;obtain⟨p,g⟩:=List.nodup_cons.mp i;simp only [List.map_cons,nT];by_cases n:h=k
  .subst n;rw [if_pos rfl];have f:putK ((h,w)::v) h u=(h,u)::v:=by
    unfold putK;rw [if_pos (by simp)];rw [List.map_cons,if_pos rfl];congr 1;have:∀l:List (bI×V),h ∉ l.map (·.1)->l.map (fun a=>if a.1=h then (a.1,u) else a)=l:=by
     intro l;induction l with
     | nil=>intro _;rfl
     | cons q l C=>
      intro b;rw [List.map_cons] at b;have P:¬q.1=h:=fun z=>b (by rw [<- z];exact List.mem_cons_self)
      rw [List.map_cons,if_neg P,C fun z=>b (bg _ z)]
    exact this v p
   rw [f];exact⟨rfl,u,_,rfl,t,j⟩
  .rw [if_neg n];obtain⟨A,B⟩:=oY t g j;have f:putK ((h,w)::v) k u=(h,w)::putK v k u:=by
    unfold putK;rw [gE,bB (show ¬(h,w).1=k from n),Bool.false_or];by_cases c:(v.any fun a=>decide (a.1=k))=true
    .rw [if_pos c,if_pos c,List.map_cons,if_neg (show ¬(h,w).1=k from n)]
    .rw [if_neg c,if_neg c];rfl
   rw [f,List.map_cons,List.map_cons,A];exact⟨rfl,w,_,rfl,E,B⟩
theorem Ij {o i g:Expr}{T:EE}{k Y:EV}{G:Pos} (hu:X.A.units+1 < cLine) (ho:PE X o (tE X.K T)) (hi:PE X i (tV X.K k)) (hv:PE X g (tV X.K Y)) (hs:swapsWith g (some (.Subscript o i G)) J.line X.env=pure false:=by rfl) :
  PS X (.Assign [.Subscript o i G] g J) (kP X.K (oh T k Y)):=(vH hu ho hi hv hs).imp' fun D N H hz=>by
 obtain⟨F,m,L,S,fl,L',S',r,l,q,h⟩:=hz;obtain⟨y,E,e1,q⟩:=ai q;obtain⟨d,I,e2,q⟩:=ai q;obtain⟨z,M,e3,q⟩:=ai q;refine⟨F,m,L,S,y,E,r,l,e1,fun v C V H1 c r1 p1=>?_⟩;refine⟨C,V,L,E,d,I,r1,l.mono c,e2,fun x F2 m2 H2 p r2 p2=>?_⟩;refine⟨F2,m2,L,I,z,M,r2,(l.mono c).mono p,e3,fun w n b f u B p3=>?_⟩;cases P:jD d M with
 | none=>rw [P] at q;cases q
 | some t=>
  obtain⟨j,ks,O⟩:=t;rw [P] at q;cases K:cg z with
  | none=>rw [K] at q;cases q
  | some e=>
   rw [K] at q;dsimp only at q;split at q
   .rename_i U;cases q;obtain⟨rfl,es⟩:=qx P;obtain⟨a,rfl,A⟩:=RD.mono u p2;obtain⟨s,R,hk,rs⟩:=B.obj j a _ A es;subst hk;have pv:RD X.K n f b (.p y) v:=RD.mono u (RD.mono p (show RD X.K C H1 V (.p y) v from p1));obtain⟨h1,h2⟩:=oY (k:=e) pv U.1 rs;cases (gN K p3);have W:∀Z,f a≠some (.tup Z):=fun Z z=>by rw [R] at z;cases z
    have st:Stp n b f n b (cm f a (.dK (putK s e v))):=fK B A es trivial W;have hl:s.length < sizeLine:=by have Q:(s.map (·.1)).length≤1000000:=of_decide_eq_true U.2;rw [bP] at Q;exact kU Q (by decide)
    refine⟨a,_,rfl,tZ.k R hl,?_⟩;exact h N n b _ (c.trans (p.trans (u.trans st))) (B.set A es trivial W ⟨_,aN,h1,dA.mono st h2⟩) (((l.mono c).mono p).mono (u.trans st))
   .cases q
end
section
variable {X:Cx}{a b c e:Expr}{es:Ab}{C U q:EV}{fs:gj}{J p:Pos}
noncomputable def gP:List P->Option (List Int)
 | []=>some []
 | .int i::r=>(gP r).map (i::·)
 | _::_=>none
noncomputable def u5:P->P->Option P
 | .dct s O,.dct k v=>if s=k/\s.Nodup/\(gP O).isSome=true/\gP O=gP v then some (.bl true) else none
 | x,y=>JL x y
theorem l_ {k x:bI}{v:Value}{r:List (bI×Value)} (h:¬x=k):valueAt ((x,v)::r) k=valueAt r k:=by simp [valueAt,i8,h]
theorem ma {k:bI}{v:Value}{r:List (bI×Value)}:valueAt ((k,v)::r) k=some v:=by simp [valueAt,i8]
theorem sJ {K:FG}{F:Aa}{H:Hp}{A:Around}{s:Shared}:∀{n h:List (bI×V)}{C w:List (bI×Value)}{g a:List P}{B:List Int},(n.map (·.1)).Nodup->n.map (·.1)=h.map (·.1)->KV n C->KV h w ->
  cA K F H g (n.map (·.2))->cA K F H a (h.map (·.2))->gP g=some B->gP a=some B->∀{p:List (bI×Value)},(∀k v,valueAt w k=some v->k ∈ h.map (·.1)->valueAt p k=some v)->PySem.W.KeqHits A s p C true
 | [],[],C,w,g,a,B,R,e,Q,o,Y,Z,m,r,p,L=>by cases Q;exact .nil
 | [],_::_,_,_,_,_,_,_,e,_,_,_,_,_,_,_,_=>by simp at e
 | _::_,[],_,_,_,_,_,_,e,_,_,_,_,_,_,_,_=>by simp at e
 | (k,v)::n,(k',v')::h,C,w,g,a,B,R,e,Q,o,Y,Z,m,r,p,L=>by
  cases Q with
  | @cons _ q _ qs h1 t1=>
   cases o with
   | @cons _ q' _ qs' h2 t2=>
    obtain⟨kq,u⟩:=q;obtain⟨kq',u'⟩:=q';obtain⟨e1,rv⟩:=h1;obtain⟨e2,S⟩:=h2;dsimp only at e1 e2 rv S;subst e1;subst e2;rw [List.map_cons,List.map_cons] at e;injection e with ek er;dsimp only at ek;subst ek;rw [List.map_cons] at R;obtain⟨T,U⟩:=List.nodup_cons.mp R;cases g with
    | nil=>have:=cA.length Y;simp at this
    | cons d dr=>
     cases a with
     | nil=>have:=cA.length Z;simp at this
     | cons d' D=>
      obtain⟨x,xr,ex,p1,q1⟩:=Y;obtain⟨x',xr',j,W,X⟩:=Z;rw [List.map_cons] at ex j;injection ex with I J;injection j with l y;subst I J l y;cases d with
      | int i=>
       cases d' with
       | int f=>
        simp only [gP] at m r;cases E:gP dr with
        | none=>rw [E] at m;cases m
        | some js=>
         cases c:gP D with
         | none=>rw [c] at r;cases r
         | some O=>
          rw [E] at m;rw [c] at r;cases m;have N:f::O=i::js:=Option.some.inj r;injection N with z1 z2;subst z1;subst z2;cases (show v=.int f from p1);cases (show v'=.int f from W);obtain⟨t,rfl⟩:=rv;obtain⟨t',rfl⟩:=S;have hy:valueAt p k=some (.int f t'):=L k _ ma (by simp);have G:SeqAt.EqAt A s (.int f t) (.int f t') true:=by have:=SeqAt.EqAt.int_int (A:=A) (s:=s) f t f t';simpa using this
          have cu:=sJ (A:=A) (s:=s) U er t1 t2 q1 X E c (p:=p) fun o v2 hv M=>by
           refine L o v2 ?_ (bg _ M);have:¬k=o:=fun z=>by subst z;rw [<- er] at M;exact T M
           rw [l_ this];exact hv
          have:=PySem.W.KeqHits.hit (e:=true) (b:=true) hy G cu;exact this
       | _=>simp [gP] at r
      | _=>simp [gP] at m
theorem F0 (hu:X.A.units+1 < cLine):my X (compareOp .Eq) u5:=by
 intro B s N H x y v u Q I S K h;obtain⟨F,n,f,d,G,l,z,q,k⟩:=h;have o:JL n f=some d->wpAny (model X.prog X.w) X.A (compareOp .Eq v u) (EP X B N Q) X.xe s:=fun q=>Jq B s N H x y v u Q I S K ⟨F,n,f,d,G,l,z,q,k⟩
 cases n with
 | dct ks O=>
  cases f with
  | dct W vs'=>
   simp only [u5] at q;split at q
   .rename_i M;cases q;obtain⟨g,nd,V,R⟩:=M;obtain⟨a,Y,rfl,C,c,E,ra⟩:=l;obtain⟨b,j,rfl,U,m,p,rb⟩:=z;cases S;cases K;obtain⟨za,J,ws,r,P⟩:=wc I.hok c;obtain⟨zb,L,w,e,D⟩:=wc I.hok m;obtain⟨is,i⟩:=Option.isSome_iff_exists.mp V;subst E;have t:=sJ (A:=X.A.in1) (s:=s) nd (by rw [p];exact g) r e ra rb i (by rw [<- R];exact i) (p:=w) fun _ _ h _=>h
    refine PySem.W.keq_eq J L P D (by lia) (fun _=>t) ?_;have T:ws.length=w.length:=by have l1:=r.length;have l2:=e.length;have Z:=congrArg List.length g;rw [<- p,bP,bP] at Z;lia
    rw [T];simp only [beq_self_eq_true,Bool.and_self];exact⟨.bl true,H,I,rfl,k _ F H .refl rfl⟩
   .cases q
  | _=>exact o q
 | _=>exact o q
noncomputable def signs (x:Str):List P:=x.cps.toList.map fun c=>.str ⟨#[c]⟩
noncomputable def Kq (x:Str):It:=⟨fun i _=>i < x.cps.size,fun i H v h=>h=H/\∃c,x.cps[i]? = some c/\v=.str ⟨#[c]⟩,fun i _=>x.cps.size≤i⟩
theorem wD {P:Program}{w:World}{K:FG}{M:Expr} (n:Addr) (x:Str) (t:Tok):Turn P w K M (Kq x) [n] n (fun i h=>h.IsStrIter n "str_ascii_iterator" x t i) where
 mem:=by simp
 obj:=fun i h st b a=>by
  have e:b=n:=by simpa using a
  subst e;obtain⟨o,e,c,d⟩:=st;exact⟨o,e,fun v z=>by rw [d] at z;cases z⟩
 keep:=fun i h m st k=>let ⟨o,e,r⟩:=st;⟨o,k n (by simp) o e,r⟩
 item:=by
  intro X F hw S A i B s N H E I p st g;subst F hw S;obtain⟨q,u,J,j,l,y⟩:=p n (by simp);have C:x.cps[i]? = some (x.cps[i]'g):=ue g;refine wpAny_pyNext_ascii_item st C fun m f L=>?_
  have D:L2.Inv X B N H { s with heap:=m,toks:=s.toks+1 }:=I.turned (fun b o a e=>(L.2 b a).trans e) q u j l y;obtain⟨o,e,c,d⟩:=id f;exact⟨_,rfl,vZ (s:={ s with heap:=m,toks:=s.toks+1 }) e c d (by decide) ⟨.str ⟨#[x.cps[i]'g]⟩,H,D,⟨_,rfl⟩,⟨rfl,_,C,rfl⟩,f,fun b a=>(p b a).1⟩⟩
 done:=by intro X F hw S A i B s N H E I p st g;subst F hw S;obtain⟨q,u,J,j,l,y⟩:=p n (by simp);exact wpAny_pyNext_ascii_end (I.ok.hd A) st (by rw [Array.getElem?_eq_none_iff];exact g) fun m G=>⟨rfl,I.turned (t':=s.toks) (fun b o a e=>G b o a e) q u j l y⟩
 self:=fun _ _ _ _ _ st h=>wpAny_pyIter_striter_ascii st h
theorem DQ {K:FG}{F:Aa}{m:List Addr}{H:Hp}{x:Str}:Cb K (Kq x) (signs x) F m H:=by
 intro a r f s;have h:(signs x).length=x.cps.size:=by unfold signs;simp
 refine⟨fun i v e=>?_,by show x.cps.size≤(signs x).length;rw [h];exact Nat.le_refl _⟩;have k:i < x.cps.size:=by rw [<- h];exact (List.getElem?_eq_some_iff.mp e).1
 refine⟨k,fun y b z=>?_⟩;obtain⟨rfl,c,n,rfl⟩:=z;refine⟨a,.refl,?_⟩;unfold signs at e;rw [List.getElem?_map,Array.getElem?_toList,n] at e;cases e;exact rfl
noncomputable def g6 (a:EV):gj:=fun L S=>aL (a L S) fun v h=>match v with
 | .lst s=>some (s,h)
 | .ro s=>some (s,h)
 | .tup s=>some (s,h)
 | .str x=>if (x.cps.all (· < 128))=true then some (signs x,h) else none
 | _=>none
theorem iS {T iter:Expr} (h:PE X iter (tV X.K C)):PI X T iter (tI X.K (g6 C)):=by
 intro B s N H R I ⟨F,m,L,S,O,Y,r,l,q,k⟩;obtain⟨v,D,Z,q⟩:=ai q;refine cY (h B s N H (fun x f=>∃d g,Stp F m H d g f/\Rel X.K d f g D/\RP X.K d f v x) I ⟨F,m,L,S,v,D,r,l,Z,fun x d g f n G j=>⟨d,g,n,G,j⟩⟩) fun u n E=>?_
 obtain⟨x,f,c,M,d,g,st,G,j⟩:=E;have mk:∀{J:It},Cb X.K J O d g f->D=Y->R J f:=fun it e=>by subst e;exact k _ d g f st G it
 have i:∀{a:Addr}{A:List V},x=.ref a->gY X.K f a A->R (Ie X.K a) f->wpAny (model X.prog X.w) X.A (pyIter u) (Ia X B N T R) X.xe n:=fun {a A} e hq q=>by
  subst e;cases M;obtain⟨K,rv,p,E⟩:=c.list hq;refine wpAny_pyIter_list p.isList ?_;refine⟨n.heap.objs.size,[n.heap.objs.size],_,_,f,rfl,c.kept (t':=n.toks) fun b o e=>Heap.get?_push_of_some _ e,wE a _,⟨_,Heap.get?_push_size _ rfl,rfl,rfl⟩,fun b y=>?_,q⟩;have e:b=n.heap.objs.size:=by simpa using y
  subst e;exact c.fpOk (Nat.le_refl _) (c.hok.fresh (Nat.le_refl _))
 cases v with
 | lst Q=>cases q;obtain⟨a,A,rfl,w,P⟩:=j;exact i rfl w.sq (mk (y_ (fun U m2 W s=>(w.kp s.kp).sq) P) rfl)
 | ro Q=>cases q;obtain⟨a,A,rfl,w,P⟩:=j;exact i rfl w.sq (mk (y_ (fun U m2 W s=>(w.kp s.kp).sq) P) rfl)
 | tup Q=>
  cases q;obtain⟨a,A,rfl,w,P⟩:=j;cases M;obtain⟨K,rv,pp,E⟩:=c.tuple w.sq;refine wpAny_pyIter_tuple (show n.heap.IsTuple a K.toArray from pp) ?_;refine⟨n.heap.objs.size,[n.heap.objs.size],_,_,f,rfl,c.kept (t':=n.toks) fun b o e=>Heap.get?_push_of_some _ e,uj a _,⟨_,Heap.get?_push_size _ rfl,rfl,rfl⟩,fun b y=>?_,mk (DR w P) rfl⟩;have e:b=n.heap.objs.size:=by simpa using y
  subst e;exact c.fpOk (Nat.le_refl _) (c.hok.fresh (Nat.le_refl _))
 | str z=>
  dsimp only at q;split at q
  .rename_i ha;cases q;cases (show x=.str z from j);obtain⟨t,rfl⟩:=(show ∃t,u=Value.str z t from M);refine wpAny_pyIter_ascii ha ?_;refine⟨n.heap.objs.size,[n.heap.objs.size],_,_,f,rfl,c.kept (t':=n.toks) fun b o e=>Heap.get?_push_of_some _ e,wD _ z t,⟨_,Heap.get?_push_size _ rfl,rfl,rfl⟩,fun b y=>?_,mk DQ rfl⟩;have e:b=n.heap.objs.size:=by simpa using y
   subst e;exact c.fpOk (Nat.le_refl _) (c.hok.fresh (Nat.le_refl _))
  .cases q
 | _=>cases q
end
section
variable {X:Cx}{J p:Pos}
noncomputable abbrev DE:=List (Str×EV)
end
mutual
noncomputable def pd:P->PyData
 | .non=>.none
 | .bl b=>.bool b
 | .int i=>.int i
 | .str x=>.str x
 | .tup xs=>.tuple (kQ xs)
 | .lst xs=>.list (kQ xs)
 | .ro xs=>.list (kQ xs)
 | .dct _ _=>.none
noncomputable def kQ:List P->List PyData
 | []=>[]
 | x::r=>pd x::kQ r
end
noncomputable def dq:Nat->P->Bool
 | _,.non=>true
 | _,.bl _=>true
 | _,.int _=>true
 | _,.str x=>PyData.strOk x
 | n+1,.tup s=>s.all (dq n)
 | n+1,.lst s=>s.all (dq n)
 | n+1,.ro s=>s.all (dq n)
 | _,_=>false
variable {n:Nat}
theorem mK:∀{s:List P},(∀d ∈ s,(pd d).canLay0=true/\(pd d).depth≤n)->PyData.canLayAll0 (kQ s)=true/\PyData.depthAll (kQ s)≤n
 | [],_=>⟨rfl,Nat.zero_le _⟩
 | d::r,h=>by obtain⟨⟨p,a⟩,q⟩:=List.forall_mem_cons.mp h;obtain⟨x,e⟩:=mK q;exact⟨by simp only [kQ,PyData.canLayAll0,p,x,Bool.and_self],by simp only [kQ,PyData.depthAll];lia⟩
theorem fL:∀(n:Nat) (p:P),dq n p=true->(pd p).canLay0=true/\(pd p).depth≤n
 | _,.non,_=>⟨rfl,Nat.zero_le _⟩
 | _,.bl _,_=>⟨rfl,Nat.zero_le _⟩
 | _,.int _,_=>⟨rfl,Nat.zero_le _⟩
 | n,.str x,h=>⟨by cases n <;> exact h,Nat.zero_le _⟩
 | n,.dct _ _,h=>by cases n <;> cases h
 | 0,.tup _,h=>by cases h
 | 0,.lst _,h=>by cases h
 | 0,.ro _,h=>by cases h
 | n+1,.tup s,h=>by obtain⟨a,b⟩:=mK fun d hd=>fL n d (bQ.mp h d hd);exact⟨a,by simp only [pd,PyData.depth];lia⟩
 | n+1,.lst s,h=>by obtain⟨a,b⟩:=mK fun d hd=>fL n d (bQ.mp h d hd);exact⟨a,by simp only [pd,PyData.depth];lia⟩
 | n+1,.ro s,h=>by obtain⟨a,b⟩:=mK fun d hd=>fL n d (bQ.mp h d hd);exact⟨a,by simp only [pd,PyData.depth];lia⟩
theorem iC (h:dq 20 p=true):SeqAt.shaped (pd p)=true:=by obtain⟨x,a⟩:=fL 20 p h;unfold SeqAt.shaped;rw [x,Bool.true_and];exact im (by lia)
section
variable {X:Cx}{B:PN}{N:L2.St}{H:Hp}{s:Shared}{F:Aa}
theorem gZ (o:∀{p:P}{v:V}{u:Value},RP X.K F H p v->RelV v u->dq n p=true->∃k,Reads s.heap u (pd p) k) :
  ∀{f:List P}{a:List V}{b:LV},cA X.K F H f a->aQ a b->(∀d ∈ f,dq n d=true)->∃k,ReadsAll s.heap b (kQ f) k
 | [],a,b,r,v,_=>by cases (show a=[] from r);cases v;exact⟨_,.nil⟩
 | d::f,a,b,r,v,h=>by
  obtain⟨x,i,rfl,p,r⟩:=r;cases v with
  | cons w t=>obtain⟨k,q⟩:=o p w (h d (.head _));obtain⟨g,m⟩:=gZ o r t fun e c=>h e (.tail _ c);exact⟨_,.cons q m⟩
theorem h7 (I:Inv X B N H s):∀(n:Nat) {p:P}{v:V}{u:Value},RP X.K F H p v->RelV v u->dq n p=true->∃w,Reads s.heap u (pd p) w:=by
 intro n;induction n with
 | zero=>
  intro p v u r k h;cases p with
  | non=>cases (show v=.non from r);cases k;exact⟨_,.none⟩
  | bl b=>cases (show v=.bl b from r);cases k;exact⟨_,.bool b⟩
  | int i=>cases (show v=.int i from r);obtain⟨t,rfl⟩:=k;exact⟨_,.int i t⟩
  | str x=>cases (show v=.str x from r);obtain⟨t,rfl⟩:=k;exact⟨_,.str x t⟩
  | _=>simp [dq] at h
 | succ n y=>
  intro p v u r k h;cases p with
  | non=>cases (show v=.non from r);cases k;exact⟨_,.none⟩
  | bl b=>cases (show v=.bl b from r);cases k;exact⟨_,.bool b⟩
  | int i=>cases (show v=.int i from r);obtain⟨t,rfl⟩:=k;exact⟨_,.int i t⟩
  | str x=>cases (show v=.str x from r);obtain⟨t,rfl⟩:=k;exact⟨_,.str x t⟩
  | dct A O=>simp [dq] at h
  | tup z=>obtain⟨a,K,rfl,l,j⟩:=r;cases k;obtain⟨g,f,⟨o,e,c,m,d⟩,S⟩:=I.tuple l.sq;obtain⟨w,q⟩:=gZ y j f (by simpa [dq] using h);rw [pd];exact⟨w,reads_tuple_at e c d (by simpa using q)⟩
  | lst z=>obtain⟨a,K,rfl,l,j⟩:=r;cases k;obtain⟨g,f,⟨o,m,e,c,_,d⟩,S⟩:=I.list l.sq;obtain⟨w,q⟩:=gZ y j f (by simpa [dq] using h);rw [pd];exact⟨_,reads_list_at e c d (by simpa using q)⟩
  | ro z=>obtain⟨a,K,rfl,l,j⟩:=r;cases k;obtain⟨g,f,⟨o,m,e,c,_,d⟩,S⟩:=I.list l.sq;obtain⟨w,q⟩:=gZ y j f (by simpa [dq] using h);rw [pd];exact⟨_,reads_list_at e c d (by simpa using q)⟩
end
noncomputable def mh (f:D->Option P):List D->Option (List P)
 | []=>some []
 | d::r=>(f d).bind fun v=>(mh f r).map fun O=>v::O
noncomputable def eJ (S:aJ):Nat->D->Option P
 | _,.p v=>some v
 | 0,.ref _=>none
 | n+1,.ref i=>match S[i]? with
  | some (.lst d)=>(mh (eJ S n) d).map .lst
  | some (.fz v)=>some v
  | _=>none
@[simp] theorem uu (S:aJ) (n:Nat) (v:P):eJ S n (.p v)=some v:=by cases n <;> rfl
theorem vM (S:aJ) (n:Nat):∀O:List P,mh (eJ S n) (O.map .p)=some O
 | []=>rfl
 | v::r=>by simp [mh,vM S n r]
section
variable {X:Cx}{B:PN}{N:L2.St}{H:Hp}{s:Shared}{F:Aa}{m:List Addr}{S:aJ}
theorem nv (o:∀{d:D}{v:V}{u:Value}{p:P},RD X.K F H m d v->RelV v u->eJ S n d=some p->dq L p=true->∃b,Reads s.heap u (pd p) b) :
  ∀{k:List D}{f:List V}{c:LV}{ps:List P},dA X.K F H m k f->aQ f c->mh (eJ S n) k=some ps->(∀d ∈ ps,dq L d=true)->∃b,ReadsAll s.heap c (kQ ps) b
 | [],f,c,ps,r,v,q,_=>by cases (show f=[] from r);cases v;cases q;exact⟨_,.nil⟩
 | d::k,f,c,ps,r,v,q,h=>by
  obtain⟨x,A,rfl,p,r⟩:=r;obtain⟨y,i,q⟩:∃a,eJ S n d=some a/\(mh (eJ S n) k).map (fun O=>a::O)=some ps:=by
   cases e:eJ S n d with
   | none=>simp [mh,e] at q
   | some a=>exact⟨a,rfl,by simpa [mh,e] using q⟩
  obtain⟨B,j,rfl⟩:∃a,mh (eJ S n) k=some a/\ps=y::a:=by
   cases e:mh (eJ S n) k with
   | none=>rw [e] at q;cases q
   | some a=>rw [e] at q;cases q;exact⟨a,rfl,rfl⟩
  cases v with
  | cons z l=>obtain⟨b,g⟩:=o p z i (h y (.head _));obtain⟨K,t⟩:=nv o r l j fun e w=>h e (.tail _ w);exact⟨_,.cons g t⟩
theorem fx (I:Inv X B N H s) (y:Rel X.K F H m S):∀(n k:Nat) {d:D}{v:V}{u:Value}{p:P},RD X.K F H m d v->RelV v u->eJ S n d=some p->dq k p=true->∃b,Reads s.heap u (pd p) b:=by
 intro n;induction n with
 | zero=>
  intro k d v u p r x q h;cases d with
  | p w=>rw [uu] at q;cases q;exact h7 I k r x h
  | ref i=>cases q
 | succ n C=>
  intro k d v u p r x q h;cases d with
  | p w=>rw [uu] at q;cases q;exact h7 I k r x h
  | ref i=>
   obtain⟨a,rfl,g⟩:=r;have A:i < S.length:=by rw [<- y.len];exact (List.getElem?_eq_some_iff.mp g).1
   obtain⟨o,j⟩:∃o,S[i]? = some o:=⟨S[i],by simp [A]⟩;have l:=y.obj i a o g j;simp only [eJ,j] at q;cases o with
   | fz w=>cases q;exact h7 I k l x h
   | dct L t=>cases q
   | ins _ _ _=>cases q
   | exc _=>cases q
   | dtt _ _=>cases q
   | lst t=>
    dsimp only at q;cases e:mh (eJ S n) t with
    | none=>rw [e] at q;cases q
    | some O=>
     rw [e] at q;cases q;cases k with
     | zero=>simp [dq] at h
     | succ k=>obtain⟨Q,K,G⟩:=l;cases x;obtain⟨E,f,⟨o,M,z,c,_,d⟩,J⟩:=I.list (gY.of K);obtain⟨b,q⟩:=nv (L:=k) (fun r x q h=>C k r x q h) G f e (by simpa [dq] using h);rw [pd];exact⟨_,reads_list_at z c d (by simpa using q)⟩
theorem iA (l:Rel X.K F H m S) (r:RD X.K F H m u v) (q:eJ S n u=some p) (k:∀c,p≠.lst c):RP X.K F H p v:=by
 cases u with
 | p w=>rw [uu] at q;cases q;exact r
 | ref i=>
  cases n with
  | zero=>cases q
  | succ n=>
   obtain⟨a,rfl,h⟩:=r;have s:i < S.length:=by rw [<- l.len];exact (List.getElem?_eq_some_iff.mp h).1
   obtain⟨o,x⟩:∃o,S[i]? = some o:=⟨S[i],by simp [s]⟩;have b:=l.obj i a o h x;simp only [eJ,x] at q;cases o with
   | fz w=>cases q;exact b
   | dct t d=>cases q
   | ins _ _ _=>cases q
   | exc _=>cases q
   | dtt _ _=>cases q
   | lst d=>
    dsimp only at q;cases e:mh (eJ S n) d with
    | none=>rw [e] at q;cases q
    | some f=>rw [e] at q;cases q;exact absurd rfl (k f)
end
inductive rEI (K:FG) (g:D->D->aJ->Option P) (x:V) (y:V) (H:Hp) (Q:VK):Prop
 | mk (F:Aa) (m:List Addr) (S:aJ) (d:D) (e:D) (v:P) (h0_:Rel K F H m S) (h1_:RD K F H m d x) (h2_:RD K F H m e y) (h3_:g d e S=some v) (h4_:∀u F' H',Grow F H F' H'->RP K F' H' v u->Q u H'):rEI K g x y H Q
noncomputable def rE (K:FG) (g:D->D->aJ->Option P):R2:=fun x y H Q=>rEI K g x y H Q
noncomputable def aH (g:D->D->aJ->Option P) (a b:EE):EV:=fun L S=>aL (a L S) fun x e=>aL (b L e) fun y h=>(g x y h).map fun v=>(v,h)
section
variable {X:Cx}{a b:Expr}{C U:EE}{J:Pos}
theorem vu (h:tV X.K (aH a0 C U) N H Q):CB (rE X.K a0) (tE X.K C) (tE X.K U) N H Q:=by
 obtain⟨F,m,L,S,d,o,r,l,q,k⟩:=h;obtain⟨x,a,K,q⟩:=ai q;obtain⟨y,s,P,q⟩:=ai q;refine⟨F,m,L,S,x,a,r,l,K,fun v t A I b G B=>?_⟩;refine⟨t,A,L,a,y,s,G,l.mono b,P,fun u p n J c f D=>?_⟩;cases e:a0 x y s with
 | none=>rw [e] at q;cases q
 | some z=>rw [e] at q;cases q;exact⟨p,n,o,x,y,_,f,RD.mono c B,D,e,fun w i j g E=>k w i n j (b.trans (c.trans g.stp)) (f.grow g) E⟩
theorem E2 (o:ik X (compareOp v) (rE X.K r)) (x:PE X a (tE X.K C)) (e:PE X b (tE X.K U)) (m:behindInMarks v b=false):PE X (.Compare a [v] [b] J) (tV X.K (aH r C U)):=
 (vJ o x e m).imp' fun _ _ _ h=>vu h
theorem EQ (o:ik X (compareOp op) (rE X.K u)) (c:PE X a (tE X.K C)) (t:PE X b (tE X.K U)) (w:behindInMarks op b=false):PT X (.Compare a [op] [b] J) (tQ X.K (bV (aH u C U))):=
 (vG o c t w).imp' fun N H Q h=>by
  refine vu ?_;obtain⟨F,m,L,S,d,j,r,l,q,k⟩:=h;obtain⟨x,y,f,q⟩:=ai q;cases x with
  | bl b=>cases q;exact⟨F,m,L,S,_,_,r,l,f,fun v e g n s i p=>⟨_,p,k e g n s i⟩⟩
  | _=>cases q
end
noncomputable def zz (x y:P):Option Bool:=match u5 x y with
 | some (.bl b)=>some b
 | _=>if (dq 20 x && dq 20 y)=true then some (PyData.eqv (pd x) (pd y)) else none
noncomputable def d9 (d e:D) (S:aJ):Option P:=(eJ S 9 d).bind fun x=>(eJ S 9 e).bind fun y=>(zz x y).map .bl
noncomputable def xG (x y:P):Option Bool:=match D5 x y with
 | some (.bl b)=>some b
 | _=>if (dq 20 x && dq 20 y)=true then some (!PyData.eqv (pd x) (pd y)) else none
noncomputable def mN (d e:D) (S:aJ):Option P:=(eJ S 9 d).bind fun x=>(eJ S 9 e).bind fun y=>(xG x y).map .bl
noncomputable def lX (c:D) (S:aJ):Option (List bI):=match c with
 | .p (.dct k _)=>some k
 | .ref i=>match S[i]? with
  | some (.dct k _)=>some k
  | some (.fz (.dct k _))=>some k
  | _=>none
 | _=>none
noncomputable def Gw (x c:P):Option Bool:=match x,c with
 | .str i,.str j=>some (!(Builtin.Str.occurrences j i 0 j.length 1).isEmpty)
 | x,.lst s=>if (s.all (dq 19) && dq 19 x)=true then some (s.any fun y=>PyData.eqv (pd y) (pd x)) else none
 | x,.ro s=>if (s.all (dq 19) && dq 19 x)=true then some (s.any fun y=>PyData.eqv (pd y) (pd x)) else none
 | x,.tup s=>if (s.all (dq 19) && dq 19 x)=true then some (s.any fun y=>PyData.eqv (pd y) (pd x)) else none
 | _,_=>none
noncomputable def xh (k:bI) (s:List bI):Bool:=s.any fun h=>decide (h=k)
noncomputable def En (d c:D) (S:aJ):Option Bool:=match lX c S with
 | some s=>(eJ S 9 d).bind fun x=>(cg x).map fun k=>xh k s
 | none=>(eJ S 9 d).bind fun x=>(eJ S 9 c).bind fun y=>Gw x y
noncomputable def z7 (d c:D) (S:aJ):Option P:=(En d c S).map .bl
noncomputable def d4:D->Bool
 | .p .non=>true
 | _=>false
noncomputable def rW (d e:D) (_:aJ):Option P:=match e with
 | .p .non=>some (.bl (d4 d))
 | _=>none
noncomputable def dm (d e:D) (_:aJ):Option P:=match e with
 | .p .non=>some (.bl (!d4 d))
 | _=>none
theorem u4 (h:u5 x r=some b):(∀s,x≠.lst s)/\∀s,r≠.lst s:=by
 refine⟨fun s e=>?_,fun s e=>?_⟩
 .subst e;cases r <;> cases h
 .subst e;cases x <;> cases h
section
variable {X:Cx}
theorem FZ (o:X.A.units+64 < cLine):ik X (compareOp .Eq) (rE X.K d9):=by
 intro B s N H x y v u Q I j z h;obtain⟨F,m,S,d,e,r,l,g,i,q,k⟩:=h;unfold d9 at q;cases t:eJ S 9 d with
 | none=>rw [t] at q;cases q
 | some a=>
  rw [t] at q;cases p:eJ S 9 e with
  | none=>rw [p] at q;cases q
  | some b=>
   rw [p] at q;simp only [pL] at q;cases n:zz a b with
   | none=>rw [n] at q;cases q
   | some c=>
    rw [n] at q;cases q;unfold zz at n;split at n
    .rename_i G w;cases n;obtain⟨K,P⟩:=u4 w;exact F0 (by lia) B s N H x y v u Q I j z ⟨F,a,b,.bl c,l.ft,iA l g t K,iA l i p P,w,k⟩
    .split at n
     .rename_i f;rw [Bool.and_eq_true] at f;cases n;obtain⟨D,A⟩:=fx I l 9 20 g j t f.1;obtain⟨E,C⟩:=fx I l 9 20 i z p f.2;exact eq_dataH A C (iC f.1) (iC f.2) o ⟨.bl _,H,I,rfl,k _ F H .refl rfl⟩
     .cases n
theorem xx (h:D5 x r=some b):(∀s,x≠.lst s)/\∀s,r≠.lst s:=by
 refine⟨fun s e=>?_,fun s e=>?_⟩
 .subst e;cases r <;> cases h
 .subst e;cases x <;> cases h
theorem FS (o:X.A.units+64 < cLine):ik X (compareOp .NotEq) (rE X.K mN):=by
 intro B s N H x y v u Q I j z h;obtain⟨F,m,S,d,e,r,l,g,i,q,k⟩:=h;unfold mN at q;cases t:eJ S 9 d with
 | none=>rw [t] at q;cases q
 | some a=>
  rw [t] at q;cases p:eJ S 9 e with
  | none=>rw [p] at q;cases q
  | some b=>
   rw [p] at q;simp only [pL] at q;cases n:xG a b with
   | none=>rw [n] at q;cases q
   | some c=>
    rw [n] at q;cases q;unfold xG at n;split at n
    .rename_i G w;cases n;obtain⟨K,P⟩:=xx w;exact Jl B s N H x y v u Q I j z ⟨F,a,b,.bl c,l.ft,iA l g t K,iA l i p P,w,k⟩
    .split at n
     .rename_i f;rw [Bool.and_eq_true] at f;cases n;obtain⟨D,A⟩:=fx I l 9 20 g j t f.1;obtain⟨E,C⟩:=fx I l 9 20 i z p f.2;exact ne_dataH A C (iC f.1) (iC f.2) o ⟨.bl _,H,I,rfl,k _ F H .refl rfl⟩
     .cases n
theorem qw (x:P):∀s:List P,(kQ s).any (fun y=>PyData.eqv y (pd x))=s.any fun y=>PyData.eqv (pd y) (pd x)
 | []=>rfl
 | y::r=>by rw [kQ,gE,gE,qw x r]
theorem BU (h:r.all (dq 19)=true):PyData.canLayAll0 (kQ r)=true/\PyData.depthAll (kQ r)≤20:=by have l:=fL 20 (.lst r) h;simp only [pd,PyData.canLay0,PyData.depth] at l;have x:=l.2;exact⟨l.1,by lia⟩
theorem wC:(fQ u v).isSome=xh v (u.map (·.1)):=by
 induction u with
 | nil=>rfl
 | cons p r i=>
  unfold xh at i ⊢;by_cases h:p.1=v
  .rw [gG h,List.map_cons,gE,im h];rfl
  .rw [fP h,i,List.map_cons,gE,bB h];rfl
theorem zJ {K:FG}{F:Aa}{H:Hp}{m:List Addr}{S:aJ}{c:D}{y:V}{n:List bI} (r:Rel K F H m S) (p:RD K F H m c y) (q:lX c S=some n):∃a k,y=.ref a/\H a=some (.dK k)/\k.map (·.1)=n:=by
 unfold lX at q;split at q
 .cases q;obtain⟨a,k,e,_,x,h,_⟩:=p;exact⟨a,k,e,x,h⟩
 .rename_i i;obtain⟨a,rfl,s⟩:=p;split at q
  .rename_i o;cases q;obtain⟨k,x,h,_⟩:=r.obj i a _ s o;exact⟨a,k,rfl,x,h⟩
  .rename_i o;cases q;obtain⟨b,k,e,_,x,h,_⟩:=r.obj i a _ s o;cases e;exact⟨a,k,rfl,x,h⟩
  .cases q
 .cases q
theorem FX (T:X.A.units+64 < cLine):ik X (compareOp .In) (rE X.K z7):=by
  intro B s N H x y v u Q I o K h;obtain⟨F,m,S,d,e,r,l,g,i,q,k⟩:=h;unfold z7 En at q;cases w:lX e S with
  | some U=>
    rw [w] at q;dsimp only at q;cases t:eJ S 9 d with
    | none=>rw [t] at q;cases q
    | some a=>
      rw [t] at q;simp only [pL] at q;cases f:cg a with
      | none=>rw [f] at q;cases q
      | some J=>
        rw [f] at q;cases q;obtain⟨b,L,rfl,G,n⟩:=zJ l i w;have M:RP X.K F H a x:=iA l g t fun D z=>by subst z;cases f
        cases K;cases gN f M;exact JI (by lia) I (iT.k G) o fun V E=>⟨.bl _,H,E,rfl,by rw [wC,n];exact k _ F H .refl rfl⟩
  | none=>
    rw [w] at q;dsimp only at q;cases t:eJ S 9 d with
    | none=>rw [t] at q;cases q
    | some a=>
      rw [t] at q;cases f:eJ S 9 e with
      | none=>rw [f] at q;cases q
      | some b=>
        rw [f] at q;simp only [pL] at q;cases n:Gw a b with
        | none=>rw [n] at q;cases q
        | some c=>
          rw [n] at q;cases q;unfold Gw at n;split at n
          · cases n
            cases (show x=.str _ from iA l g t fun D z=>by cases z);cases (show y=.str _ from iA l i f fun D z=>by cases z);exact wU B s N H _ _ v u Q I o K ⟨_,_,rfl,rfl,k _ F H .refl rfl⟩
          all_goals first
            | (cases n;done)
            | (split at n
               · rename_i p
                 rw [Bool.and_eq_true] at p;cases n;obtain⟨O,j⟩:=fx I l 9 20 i K f (by simpa [dq] using p.1);obtain⟨R,C⟩:=fx I l 9 19 g o t p.2;have P:=BU p.1;have A:=fL 19 _ p.2;rw [pd] at j;first
                   | exact SeqAt.in_list_reads j C P.1 A.1 (by lia) ⟨.bl _,H,I,rfl,by rw [qw];exact k _ F H .refl rfl⟩
                   | exact SeqAt.in_tuple_reads j C P.1 A.1 (by lia) ⟨.bl _,H,I,rfl,by rw [qw];exact k _ F H .refl rfl⟩
               · cases n)
theorem FW:ik X (compareOp .Is) (rE X.K rW):=by
 intro B s N H x y v u Q I c t h;obtain⟨F,m,S,d,e,r,l,n,f,q,k⟩:=h;unfold rW at q;split at q
 .cases q;cases (show y=.non from f);refine Dg B s N H x _ v u Q I c t ⟨rfl,?_⟩;have:decide (x=.non)=d4 d:=by
   cases d with
   | ref i=>obtain⟨a,rfl,_⟩:=n;rfl
   | p w=>
    cases w with
    | non=>cases (show x=.non from n);rfl
    | bl b=>cases (show x=.bl b from n);rfl
    | int b=>cases (show x=.int b from n);rfl
    | str b=>cases (show x=.str b from n);rfl
    | _=>(obtain⟨a,g,rfl,_⟩:=n;rfl)
  rw [this];exact k _ F H .refl rfl
 .cases q
theorem yP:ik X (compareOp .IsNot) (rE X.K dm):=by
 intro B s N H x y v u Q I c t h;obtain⟨F,m,S,d,e,r,l,n,f,q,k⟩:=h;unfold dm at q;split at q
 .cases q;cases (show y=.non from f);refine AX B s N H x _ v u Q I c t ⟨rfl,?_⟩;have:decide (x=.non)=d4 d:=by
   cases d with
   | ref i=>obtain⟨a,rfl,_⟩:=n;rfl
   | p w=>
    cases w with
    | non=>cases (show x=.non from n);rfl
    | bl b=>cases (show x=.bl b from n);rfl
    | int b=>cases (show x=.int b from n);rfl
    | str b=>cases (show x=.str b from n);rfl
    | _=>(obtain⟨a,g,rfl,_⟩:=n;rfl)
  rw [this];exact k _ F H .refl rfl
 .cases q
end
noncomputable def nG:List iY->List P->Lc->Option Lc
 | [],[],L=>some L
 | g::s,v::O,L=>match g v L with
  | some h=>nG s O h
  | none=>none
 | _,_,_=>none
noncomputable def aV (g:List iY):iY:=fun v L=>match v with
 | .tup O=>nG g O L
 | _=>none
theorem sR:∀{s:List iY}{O:List P}{L x:Lc},nG s O L=some x->O.length=s.length
 | [],[],_,_,_=>rfl
 | [],_::_,_,_,h=>by cases h
 | _::_,[],_,_,h=>by cases h
 | g::s,v::O,L,x,h=>by
  unfold nG at h;split at h
  .rw [bx,bx,sR h]
  .cases h
inductive gTsI (K:FG) (gs:List iY) (xs:List V) (σ:L2.St) (H:Hp) (Q:L2.St->Hp->Prop):Prop
 | mk (F:Aa) (m:List Addr) (L:Lc) (vs:List P) (L':Lc) (h0_:RL K F H m σ L) (h1_:cA K F H vs xs) (h2_:nG gs vs L=some L') (h3_:∀σ',RL K F H m σ' L'->Q σ' H):gTsI K gs xs σ H Q
noncomputable def KY (K:FG) (g:List iY):Eg:=fun x N H Q=>gTsI K g x N H Q
noncomputable def DU:Expr->Bool
 | .Name _ _=>true
 | _=>false
inductive GsOk (X:Cx):Ab->List iY->Prop where
 | nil:GsOk X [] []
 | cons {e:Expr}{es:Ab}{g:iY}{gs:List iY}:DU e=true->PG X e (gT X.K g)->GsOk X es gs->GsOk X (e::es) (g::gs)
section
variable {X:Cx}{J:Pos}
theorem jU (h:DU e=true):assignEach (e::es) v=(false,assign e v)::assignEach es v:=by cases e <;> first | rfl | cases h
theorem GsOk.len (h:GsOk X es r) (e:Env):(assignEach es e).length=r.length/\(assignEach es e).findIdx? (·.1)=none:=by
 induction h with
 | nil=>exact⟨rfl,rfl⟩
 | cons n _ _ i=>rw [jU n];refine⟨by rw [bx,bx,i.1],?_⟩;simp only [List.findIdx?_cons,i.2];rfl
theorem GsOk.pgs (h:GsOk X es gs):Hc X es (KY X.K gs):=by
 induction h with
 | nil=>
  intro B s N H f u Q I a ⟨F,m,L,O,e,l,r,q,k⟩;cases O with
  | nil=>cases q;cases (show f=[] from r);exact AR B s N H [] u Q I a ⟨rfl,k N l⟩
  | cons _ _=>cases q
 | cons c g _ i=>
  intro B s N H f u Q I a ⟨F,m,L,O,e,l,r,q,k⟩;cases O with
  | nil=>cases q
  | cons v O=>
   unfold nG at q;split at q
   .rename_i n b;obtain⟨x,d,rfl,p,r⟩:=r;refine yz g i (by rw [jU c];rfl) B s N H _ u Q I a ⟨x,d,rfl,F,m,L,v,n,l,p,b,fun w t=>?_⟩;exact⟨F,m,n,O,e,t,r,q,k⟩
   .cases q
theorem DW (c:X.calm=true) (h:GsOk X es r):PG X (.Tuple es n J) (gT X.K (aV r)):=
 PG.imp' (C2 c h.pgs (h.len _).1 (h.len _).2) fun v N H Q z=>by
  obtain⟨F,m,L,d,x,l,p,q,k⟩:=z;cases d with
  | tup O=>obtain⟨a,f,rfl,t,e⟩:=p;have s:=sR (show nG r O L=some x from q);exact⟨a,f,rfl,t.sq,by rw [<- e.length];exact s,F,m,L,O,x,l,e,q,k⟩
  | _=>cases q
noncomputable def BG (K:FG) (a:Addr):It:=
 ⟨fun i H=>∃s x,gY K H a s/\s[i]? = some x,fun i H x h=>∃p y,x=.ref p/\H p=none/\h=cm H p (.tup [.int i,y])/\∀s,gY K H a s->s[i]? = some y,fun i H=>∃s,gY K H a s/\s.length≤i⟩
theorem wF {P:Program}{w:World}{K:FG}{es:Ab}{n:Nat} (a e t:Addr) (C:e≠t):Turn P w K (.Tuple es n J) (BG K a) [e,t] e (fun i h=>(∃l,IsEnum h e t i l)/\h.IsListIter t a i) where
 mem:=by simp
 obj:=fun i h st b p=>by
  obtain⟨⟨l,A⟩,⟨o,ho,c,d⟩⟩:=st;have:b=e\/b=t:=by simpa using p
  rcases this with rfl | rfl
  .exact⟨_,A,fun v z=>by have z':Data.fields _=Data.cell v:=z;cases z'⟩
  .exact⟨o,ho,fun v z=>by rw [d] at z;cases z⟩
 keep:=fun i h h' st k=>by obtain⟨⟨l,A⟩,y⟩:=st;exact⟨⟨l,k e (by simp) _ A⟩,y.at fun o q=>k t (by simp) o q⟩
 item:=by
  intro X hP hw Z f i B s N H E I R st hg;subst hP hw Z;obtain⟨xs,x,T,hx⟩:=hg;obtain⟨its,rv,pl,hz⟩:=I.list T;obtain⟨u,hu,ru⟩:=rv.get hx;obtain⟨⟨l,A⟩,y⟩:=st;obtain⟨f0,f1,f2,f3,f4,f5⟩:=R e (by simp);obtain⟨M,O,g2,V,W,Y⟩:=R t (by simp);refine wpAny_pyNext_enum_item A y pl.isList (x:=u) (by simpa using hu) C fun h1 ho1 G ht1 hz1 hk1=>?_
  refine⟨_,rfl,wpAny_letOwnedTupleGo_enum (s:={ s with heap:=h1,toks:=s.toks+1 }) ho1 fun Q he2 F=>?_⟩;replace F:Heap.SameBut e h1 Q:=F;have D:e < s.heap.objs.size:=Heap.lt_size A;have S:∀b o,b≠e->b≠t->s.heap.get? b=some o->Q.get? b=some o:=fun b o b1 b2 q=>(F.2 b b1).trans (hk1 b o b1 b2 q);have L:Q.get? s.heap.objs.size=some { cls:=.type "tuple",data:=.seq #[.int i s.toks,u] }:=(F.2 _ (cK D)).trans ht1;have j:H s.heap.objs.size=none:=I.hok.fresh (Nat.le_refl _);have U:∀{b:Addr}{o:HO},H b=some o->b≠e/\b≠t:=fun {b o} q=>⟨fun z=>(by rw [z,f0] at q;cases q),fun z=>(by rw [z,M] at q;cases q)⟩;have g:∀b,b ∉ [e,t]->b≠e/\b≠t:=fun b p=>⟨fun z=>p (by simp [z]),fun z=>p (by simp [z])⟩;have I':Inv X B N (cm H s.heap.objs.size (.tup [.int i,x])) { s with heap:=Q,gens:=s.gens,drawn:=s.drawn,toks:=s.toks+1 }:=by
   refine I.step (ch:=[e,t]) (fun b p=>?_) (fun b o _ _ f q _=>S b o (g b f).1 (g b f).2 q) (fun b o _ _ f q _=>⟨o.slots,S b o (g b f).1 (g b f).2 q⟩) (fun b o _ q n=>?_) (fun b o f q=>⟨o,S b o (g b f).1 (g b f).2 q⟩)
    (fun b ys q=>?_) (fun b o ys q=>?_) (fun b ps q=>⟨#[],?_⟩) (fun m hm=>?_) (fun b u' q=>?_) I.bare
   .have:b=e\/b=t:=by simpa using p
    rcases this with rfl | rfl
    .exact⟨f3,f1,f4,f5⟩
    .exact⟨V,O,W,Y⟩
   .rw [aE (b_ (Heap.lt_size q))];exact n
   .rw [aE (cM q j)];exact q
   .rw [aE (cM q j)];exact q
   .rw [aE (cM q j),q];simp
   .obtain⟨o,es,ep,ho,r⟩:=hm;exact⟨o,es,ep,S _ o (Ne.symm f1) (Ne.symm O) ho,r⟩
   .by_cases p:b=s.heap.objs.size
    .subst p;rw [aN] at q;cases q;exact⟨by show 2≤sizeLine;decide,[.int i s.toks,u],.cons ⟨_,rfl⟩ (.cons ru .nil),⟨_,L,⟨rfl,_,rfl⟩,rfl⟩⟩
    .rw [aE p] at q;refine (I.hok b u' q).stay (fun c v f z=>S c v ?_ ?_ z) (fun c z=>by rw [aE (cM z j)];exact z) fun c ys z=>by rw [aE (cM z j)];exact z
     .rcases f with rfl | f
      .exact (U q).1
      .exact (U f).1
     .rcases f with rfl | f
      .exact (U q).2
      .exact (U f).2
  refine⟨.ref s.heap.objs.size,_,I',rfl,⟨s.heap.objs.size,x,rfl,j,rfl,fun ys hy=>by rw [I.list_inj hy T];exact hx⟩,⟨⟨u,by simpa using he2⟩,G.at fun o q=>(F.2 t (Ne.symm C)).trans q⟩,fun b p=>?_⟩;have hb':b=e\/b=t:=by simpa using p
  obtain⟨oi,hoi,_⟩:=id y;rcases hb' with rfl | rfl
  .rw [aE (b_ D)];exact f0
  .rw [aE (b_ (Heap.lt_size hoi))];exact M
 done:=by intro X hP hw Z f i B s N H E I R st hg;subst hP hw Z;obtain⟨xs,T,hx⟩:=hg;obtain⟨its,rv,pl,hz⟩:=I.list T;obtain⟨⟨l,A⟩,y⟩:=st;obtain⟨M,O,g2,V,W,Y⟩:=R t (by simp);have hl:=rv.length;exact wpAny_pyNext_enum_end (I.ok.hd f) A y pl.isList (by simp;lia) fun h' eb=>⟨rfl,I.turned (t':=s.toks) (fun b o p e=>eb b o p e) M O V W Y⟩
 self:=fun _ _ _ _ _ st h=>by obtain⟨⟨l,A⟩,_⟩:=st;exact wpAny_pyIter_enum A h
noncomputable def bj (k:Int):List P->List P
 | []=>[]
 | x::r=>.tup [.int k,x]::bj (k+1) r
theorem lw:∀{O:List P}{k:Int}{i:Nat}{v:P},(bj k O)[i]? = some v->∃x,O[i]? = some x/\v=.tup [.int (k+i),x]
 | [],_,_,_,h=>by simp [bj] at h
 | x::r,k,0,v,h=>⟨x,rfl,by simpa [bj] using h.symm⟩
 | x::r,k,i+1,v,h=>by obtain⟨y,a,e⟩:=lw (O:=r) (k:=k+1) (i:=i) (by simpa [bj] using h);refine⟨y,by simpa using a,?_⟩;rw [e];congr 3;lia
theorem cD:∀(O:List P) (k:Int),(bj k O).length=O.length
 | [],_=>rfl
 | _::r,k=>by rw [bj,bx,bx,cD r]
noncomputable def ol (a:EV):gj:=fun L S=>aL (a L S) fun v h=>match v with
 | .lst x=>some (bj 0 x,h)
 | .ro x=>some (bj 0 x,h)
 | _=>none
theorem y' {K:FG}{F:Aa}{m:List Addr}{H:Hp}{a:Addr}{O:List P}{s:List V} (t:∀h k n,Stp F m H h k n->gY K n a s) (r:cA K F H O s):Cb K (BG K a) (bj 0 O) F m H:=by
 intro h k n st;have q:=t h k n st;have l:=r.length;refine⟨fun i v e=>?_,⟨s,q,by rw [cD,l];exact Nat.le_refl _⟩⟩;obtain⟨d,c,rfl⟩:=lw e;obtain⟨x,f,p⟩:=r.get c;refine⟨⟨s,x,q,f⟩,fun z u y=>?_⟩;obtain⟨g,y,rfl,b,rfl,w⟩:=y;have:y=x:=by have:=w s q;rw [f] at this;cases this;rfl
 subst this;refine⟨h,cc b,RP.newTup b ⟨_,_,rfl,?_,_,_,rfl,RP.mono st p,rfl⟩⟩;show V.int (i:Int)=V.int (0+(i:Int));rw [d5]
theorem iE {es:Ab}{n:Nat}{a:Expr}{C:EV}{p t:Pos} (hg:Gl X "enumerate") (hm:X.mg "enumerate"=none) (ha:PE X a (tV X.K C)) (G:starEach [a] X.env=[(false,eval a X.env)]):PI X (.Tuple es n J) (.Call (.Name "enumerate" p) [a] [] t) (tI X.K (ol C)):=by
 intro B s N H R I ⟨F,m,L,S,O,S',r,l,q,k⟩;obtain⟨v,A,Y,q⟩:=ai q;have Z:PA X [a] (nZ X.K (aR C aS)):=B_ ha Ec (by rw [G];rfl);refine Call_ (j7 I hg hm boot_enumerate (mY (cY (Z t B s N H (fun c x=>∃f d,Stp F m H f d x/\Rel X.K f x d A/\cA X.K f x [v] c) I ⟨F,m,L,S,[v],A,r,l,?_,fun c f d x h j K=>⟨f,d,h,j,K⟩⟩) fun us h ⟨c,x,w,Q,f,d,st,j,K⟩=>?_) (by rw [G];rfl) rfl))
 .simp only [aR,aS,Y,aD]
 obtain⟨x1,rfl,M⟩:=sk K;obtain⟨u,rfl,ru⟩:=vals1 Q;have D:∀{a:Addr}{c:List V},x1=.ref a->gY X.K x a c->R (BG X.K a) x->wpAny (model X.prog X.w) X.A (call (.type "enumerate") [u]) (fun v h=>wpAny (model X.prog X.w) X.A (pyIter v) (Ia X B N (.Tuple es n J) R) X.xe h) X.xe h:=fun {a c} e hq q=>by
  subst e;cases ru;obtain⟨its,Q,pl,hz⟩:=w.list hq;refine call_enumerate_list pl.isList fun h' E o hsz hk=>?_
  refine wpAny_pyIter_enum E ?_;have g:∀b,h.heap.objs.size≤b->x b=none:=fun b y=>w.hok.fresh y;refine⟨h.heap.objs.size+1,[h.heap.objs.size+1,h.heap.objs.size],_,_,x,rfl,w.kept (t':=h.toks) hk,wF a _ _ (cK (pK _)),⟨⟨_,E⟩,o⟩,fun b y=>?_,q⟩;have z:b=h.heap.objs.size+1\/b=h.heap.objs.size:=by simpa using y
  rcases z with rfl | rfl
  .exact w.fpOk (mB _) (g _ (mB _))
  .exact w.fpOk (Nat.le_refl _) (g _ (Nat.le_refl _))
 cases v with
 | lst W=>cases q;obtain⟨a,c,rfl,i,P⟩:=M;exact D rfl i.sq (k _ f d x st j (y' (fun T m2 U s=>(i.kp s.kp).sq) P))
 | ro W=>cases q;obtain⟨a,c,rfl,i,P⟩:=M;exact D rfl i.sq (k _ f d x st j (y' (fun T m2 U s=>(i.kp s.kp).sq) P))
 | _=>cases q
end
open PySem.AutoSeq1 (wpAny_loadPart')
theorem zM (n:Nat):(gc n=true)=(n≤1000000):=by unfold gc;simp
variable {d:Type}{Q:d->Shared->Prop}{s:Shared}
theorem HG (h:c=false) (k:wpAny M A b Q E s):wpAny M A (if c=true then a else b) Q E s:=by rw [h,if_neg bZ];exact k
theorem KU (h:c=true) (k:wpAny M A a Q E s):wpAny M A (if c=true then a else b) Q E s:=by rw [h,if_pos rfl];exact k
theorem sW (a:Array Value) (n:Nat):∀b:Array Value,((List.replicate n a).foldl (·++·) b).size=b.size+n * a.size:=by
 induction n with
 | zero=>intro b;simp
 | succ n i=>intro b;rw [dE,gF,i,Array.size_append,Nat.succ_mul];lia
theorem Ao (l:Addr) (i:Array Value) (n:Nat) (e:Option Addr) (k:Array (OV)) (x:Int) (u:Tok) (c:-1000000 < x/\x < 1000000) (m:(i.isEmpty || x == 1)=true) :
  Meets (Builtin.«tuple.__mul__» ⟨[.ref l,.int x u],[]⟩) (fun _ R s=>s.heap.get? l=some { cls:=.type "tuple",dict:=e,data:=.seq i n,slots:=k }/\R (.ok (.ret (Value.ref l))) s):=
 .of_wp fun I w A R s h=>by
  obtain⟨p,g,d,t,os⟩:=s;obtain⟨a,h⟩:=h;have f:=AutoSeq1.idx_int;have b:=AutoSeq1.sub_tuple_tuple
  wp_walk using jY a
  refine HG (by rw [bB (by lia),bB (by lia)];rfl) ?_
  wp_walk using jY a
  exact⟨_,rfl,h⟩
theorem An (l:Addr) (i:Array Value) (n:Nat) (c:Option Addr) (q:Array (OV)) (x:Int) (u:Tok) (H:-1000000 < x/\x < 1000000) (f:¬(i.isEmpty || x == 1)=true) (z:i.size * x.toNat≤1000000) :
  Meets (Builtin.«tuple.__mul__» ⟨[.ref l,.int x u],[]⟩) (fun _ R s=>s.heap.get? l=some { cls:=.type "tuple",dict:=c,data:=.seq i n,slots:=q } /\
   R (.ok (.ret (Value.ref s.heap.objs.size))) { s with heap:=s.heap.push { cls:=Value.type "tuple",data:=Data.seq ((List.replicate x.toNat i).foldl (·++·) #[]) } }):=
 .of_wp fun I w A R s h=>by
  obtain⟨S,g,d,K,os⟩:=s;obtain⟨a,h⟩:=h;have y:=AutoSeq1.idx_int;have o:=AutoSeq1.sub_tuple_tuple
  wp_walk using jY a
  refine HG (by rw [bB (by lia),bB (by lia)];rfl) ?_
  wp_walk using jY a
  have k:i.isEmpty=false:=by
   cases e:i.isEmpty with
   | false=>rfl
   | true=>rw [e] at f;simp at f
  by_cases b:x≤0
  .refine KU (by rw [im b];rfl) ?_;have m:x.toNat=0:=by lia
   rw [m] at h
   wp_walk using jY a
   exact⟨_,rfl,h⟩
  .refine HG (by rw [bB b,k];rfl) ?_;have p:(i.size:Int) * x≤1000000:=by
    have:((i.size * x.toNat:Nat):Int)≤1000000:=by lia
    rw [Int.natCast_mul,Int.toNat_of_nonneg (by lia)] at this;exact this
   have r:¬(i.size:Int) * x > (2 ^ 63-1) / 8:=by lia
   dsimp only;rw [if_neg r];have F:(1000000:Int)≤(sizeLine:Int):=by decide
   refine HG (show Builtin.Tuple.tupleTooMany _=false from bB (by lia)) ?_;have t:¬(List.foldl (fun v j=>v++j) #[] (List.replicate x.toNat i)).size > sizeLine:=by
    have e:=sW i x.toNat #[];rw [e];have:x.toNat * i.size≤1000000:=by rw [mD];exact z
    have:(1000000:Nat)≤sizeLine:=by decide
    simp only [List.size_toArray,List.length_nil];lia
   wp_walk using jY a
   exact⟨_,rfl,h⟩
theorem AC (a:Int) (t:Tok) (l:Addr) (i:Array Value) (n:Nat) (x:Option Addr) (e:Array (OV)) :
  Meets (Builtin.«int.__rmul__» ⟨[.int a t,.ref l],[]⟩) (fun _ R s=>s.heap.get? l=some { cls:=.type "tuple",dict:=x,data:=.seq i n,slots:=e }/\R (.ok (.ret Value.notImplemented)) s):=
 .of_wp fun I w A R s h=>by
  obtain⟨p,g,d,f,os⟩:=s;obtain⟨k,h⟩:=h
  wp_walk
  exact⟨_,rfl,h⟩
theorem wX:fillsNumberSlot (.type "tuple") "mul"=pure false:=
 PySem.fillsNumberSlot_seq (id:="tuple.__mul__") (r:=some (.builtin "tuple.__rmul__")) pT.lookup (by decide +kernel) PySem.F.slot_tuple_rmul.lookup (by decide +kernel)
theorem CP:seqRepeat? (.type "tuple")=pure (some (.builtin "tuple.__mul__")):=by unfold seqRepeat?;rw [PySem.seqSlot_of (T:="tuple") (name:="__mul__") (id:="tuple.__mul__") pT.lookup (by decide +kernel)];first | rfl | (rw [PySem.seqSlot_of (T:="tuple") (name:="__rmul__") (id:="tuple.__rmul__") PySem.F.slot_tuple_rmul.lookup (by decide +kernel)];rfl)
section
variable {X:Cx}
theorem uS (i:LV) (k:Nat):(List.replicate k i.toArray).foldl (·++·) #[]=(List.replicate k i).flatten.toArray:=by
 have:∀(m:Nat) (b:LV),(List.replicate m i.toArray).foldl (·++·) b.toArray=(b++(List.replicate m i).flatten).toArray:=by
  intro m;induction m with
  | zero=>intro b;simp
  | succ m x=>intro b;rw [dE,gF,List.append_toArray,x,dE,hR,List.append_assoc]
 have h:=this k [];rw [fX] at h;exact h
theorem vk (r:aQ u v):∀k:Nat,aQ (List.replicate k u).flatten (List.replicate k v).flatten
 | 0=>.nil
 | k+1=>by rw [dE,dE,hR,hR];exact r.append (vk r k)
theorem Dv (x:List d) (k:Nat):(List.replicate k x).flatten.length=x.length * k:=by
 induction k with
 | zero=>rfl
 | succ k i=>rw [dE,hR,cO,i,Nat.mul_succ];lia
noncomputable def du:P->P->Option P
 | .tup s,.int n=>if (gc (s.length * n.toNat) && decide (n.natAbs < 1000000))=true then some (.tup (List.replicate n.toNat s).flatten) else none
 | x,y=>rF x y
theorem Dj:my X (binaryOp .Mult) du:=by
 intro B s N H x y v u Q I L M h;obtain⟨F,z,S,d,V,G,J,q,k⟩:=h;have f:rF z S=some d->wpAny (model X.prog X.w) X.A (binaryOp .Mult v u) (EP X B N Q) X.xe s:=fun q=>FT B s N H x y v u Q I L M ⟨F,z,S,d,V,G,J,q,k⟩
 cases z with
 | tup j=>
  cases S with
  | int n=>
   simp only [du] at q;split at q
   .rename_i g;rw [Bool.and_eq_true,zM] at g;have Y:=of_decide_eq_true g.2;cases q;obtain⟨a,D,rfl,O,C⟩:=G;cases (show y=.int n from J);cases L;obtain⟨t,rfl⟩:=M;have K:=C.length;obtain⟨i,r,⟨o,e,c,m,E⟩,Z⟩:=I.tuple O.sq;have l:=r.length;obtain⟨oc,A,ot,os⟩:=o;dsimp only at c E;subst c E;refine wpAny_binaryOp_repeat_ref (T:="tuple") (U:="int") (by decide) ⟨_,e,rfl⟩ (fun W=>typeIs_int W n t) wX PySem.F.fills_int_mul PySem.F.slot_int_rmul CP PySem.F.slot_int_index.lookup
     (call_meets PySem.F.slot_int_rmul (typeIs_int s n t) PySem.F.entry_int_rmul (PySem.F.args_int_rmul_2 _ _) (AC n t a i.toArray m A os) ⟨e,rfl,⟨_,e,rfl⟩,?_⟩)
    by_cases p:(i.toArray.isEmpty || n == 1)=true
    .refine call_meets pT ⟨_,e,rfl⟩ PySem.F.entry_tuple_mul (PySem.F.args_tuple_mul_2 _ _) (Ao a i.toArray m A os n t (by lia) p) ⟨e,⟨.ref a,H,I,rfl,k _ F H .refl ?_⟩⟩;have R:(List.replicate n.toNat j).flatten=j:=by
      rw [i7] at p;rcases p with p | p
      .have:i=[]:=by simpa using p
       have:j=[]:=iu (by rw [K,l,this];rfl);subst this;simp
      .have:n=1:=by simpa using p
       subst this;simp
     rw [R];exact⟨a,D,rfl,O,C⟩
    .refine call_meets pT ⟨_,e,rfl⟩ PySem.F.entry_tuple_mul (PySem.F.args_tuple_mul_2 _ _) (An a i.toArray m A os n t (by lia) p (by rw [List.size_toArray,<- l,<- K];exact g.1)) ⟨e,?_⟩;rw [uS];have w:H s.heap.objs.size=none:=I.hok.fresh (Nat.le_refl _);have P:(List.replicate n.toNat D).flatten.length≤sizeLine:=by
      rw [Dv,<- K];exact aU g.1 (by decide)
     refine⟨.ref s.heap.objs.size,_,I.laid (t':=s.toks) (o:=.tup (List.replicate n.toNat D).flatten) (fun b ob q=>Heap.get?_push_of_some _ q) (Nat.le_refl _) ⟨P,_,vk r n.toNat,lI.new _ _⟩,rfl,k _ F _ (cc w) (.newTup w (C.rep n.toNat))⟩
   .cases q
  | _=>exact f q
 | _=>exact f q
noncomputable def lH:List P->Option P
 | [.lst x]=>some (.lst x)
 | [.ro x]=>some (.lst x)
 | [.tup x]=>some (.lst x)
 | _=>none
noncomputable def bK:List P->Option P
 | [.lst x]=>some (.tup x)
 | [.ro x]=>some (.tup x)
 | [.tup x]=>some (.tup x)
 | _=>none
theorem zR:dh X (.type "list") (rC X.K lH):=by
  intro B s N H m u Q I r h;obtain⟨F,b,d,c,f,q,k⟩:=h;unfold lH at q;split at q;all_goals first
    | (cases q;done)
    | (cases q
       obtain⟨x,rfl,p⟩:=sk f;obtain⟨a,y,rfl,t,n⟩:=p;first
         | exact kI B s N H _ u Q I r ⟨a,y,rfl,.inl t.sq,fun l e=>k _ _ _ (cx e) (.newLst e n)⟩
         | exact kI B s N H _ u Q I r ⟨a,y,rfl,.inr t.sq,fun l e=>k _ _ _ (cx e) (.newLst e n)⟩)
theorem xB:dh X (.type "tuple") (rC X.K bK):=by
  intro B s N H m u Q I r h;obtain⟨F,b,d,c,f,q,k⟩:=h;unfold bK at q;split at q;all_goals first
    | (cases q;done)
    | (cases q
       obtain⟨x,rfl,p⟩:=sk f;obtain⟨a,y,rfl,t,n⟩:=p;first
         | exact jN B s N H _ u Q I r ⟨a,y,rfl,.inl ⟨t.sq,fun l e=>k _ F _ (cc e) (.newTup e n)⟩⟩
         | exact jN B s N H _ u Q I r ⟨a,y,rfl,.inr ⟨t.sq,k _ F H .refl ⟨a,y,rfl,t,n⟩⟩⟩)
noncomputable def lZ:List P->Option P
 | [.int i]=>some (.int (if i < 0 then -i else i))
 | _=>none
theorem Bx:dh X (.builtin "abs") (rC X.K lZ):=by
 intro B s N H n u Q I r h;obtain⟨F,e,d,f,a,q,k⟩:=h;unfold lZ at q;split at q
 .cases q;obtain⟨x,rfl,p⟩:=sk a;exact zP B s N H _ u Q I r ⟨_,by rw [show x=_ from p],k _ F H .refl rfl⟩
 .cases q
variable {e:Expr}{es:Ab}{fs:gj}{p J:Pos}
theorem Ce (g:Gl X "list") (m:X.mg "list"=none) (a:PA X (e::es) (nZ X.K fs)) (x:starEach (e::es) X.env=(false,eval e X.env)::starEach es X.env) (h:(backTo J (starEach es X.env)).any (·.1)=false) :
  PE X (.Call (.Name "list" p) (e::es) [] J) (tV X.K (af lH fs)):=ug zR g m t4 a (by decide) (by decide) x h
theorem Ad (g:Gl X "tuple") (m:X.mg "tuple"=none) (a:PA X (e::es) (nZ X.K fs)) (x:starEach (e::es) X.env=(false,eval e X.env)::starEach es X.env) (h:(backTo J (starEach es X.env)).any (·.1)=false) :
  PE X (.Call (.Name "tuple" p) (e::es) [] J) (tV X.K (af bK fs)):=ug xB g m PyProof.Rows.boot_tuple a (by decide) (by decide) x h
theorem EU (g:Gl X "abs") (m:X.mg "abs"=none) (a:PA X (e::es) (nZ X.K fs)) (x:starEach (e::es) X.env=(false,eval e X.env)::starEach es X.env) (h:(backTo J (starEach es X.env)).any (·.1)=false) :
  PE X (.Call (.Name "abs" p) (e::es) [] J) (tV X.K (af lZ fs)):=xS Bx g m PyProof.Rows.boot_abs a (by decide) (by decide) x h
noncomputable def dH (r:EE) (a:EV):EE:=fun L S=>aL (r L S) fun d h=>match dk d h with
 | none=>none
 | some _=>aL (a L h) fun x e=>match dk d e,x with
  | some (i,s),.lst y=>if gc (s.length+y.length)=true then some (.p .non,e.set i (.lst (s++y.map .p))) else none
  | _,_=>none
end
section
variable {X:Cx}{o e:Expr}{T z:EE}{C:EV}{j t J:Pos}
theorem Ah (ho:PE X o (tE X.K T)) (he:PE X e (tV X.K C)) (E:starEach [e] X.env=[(false,eval e X.env)])
  (n:attributeBase o "extend" X.env (eval o X.env)=eval o X.env) (f:(j.endLine == t.line)=true):PE X (.Call (.Attribute o "extend" j) [e] [] t) (tE X.K (dH T C)):=
 (BR uc PySem.F.slot_list_extend PySem.F.type_list_extend wY ho (eY he hX (by rw [E];rfl)) n (by rw [E];rfl) f (by rw [E];rfl) rfl).imp' fun N H Q hz=>by
  obtain⟨F,m,L,S,d,S',r,l,q,k⟩:=hz;obtain⟨x,B,e1,q⟩:=ai q;refine⟨F,m,L,S,x,B,r,l,e1,fun v Y m1 H1 V R O=>?_⟩;cases D:dk x B with
  | none=>rw [D] at q;cases q
  | some z=>
   obtain⟨i,ds⟩:=z;rw [D] at q;dsimp only at q;obtain⟨rfl,es⟩:=kz D;obtain⟨a,rfl,hm⟩:=id O;obtain⟨xs,hH,rs⟩:=R.obj i a _ hm es;refine⟨.inl ⟨rfl,xs,gY.of hH⟩,?_⟩;obtain⟨y,J,e2,q⟩:=ai q;refine⟨Y,m1,L,B,y,J,R,l.mono V,e2,fun u P G A W I p2=>?_⟩;cases h:dk (.ref i) J with
   | none=>rw [h] at q;cases q
   | some z=>
    obtain⟨i2,Z⟩:=z;rw [h] at q;obtain⟨e3,s⟩:=kz h;cases e3;cases y with
    | lst ys=>
     dsimp only at q;split at q
     .rename_i hf;cases q;obtain⟨a2,e4,c⟩:=RD.mono W O;cases e4;obtain⟨g,p,w⟩:=I.obj i a _ c s;obtain⟨b,K,rfl,tb,U⟩:=p2;have M:∀K,A a≠some (.tup K):=fun K z=>by rw [p] at z;cases z
      have st:Stp P G A P G (cm A a (.lst (g++K))):=fK I c s trivial M;refine⟨a,b,g,K,rfl,rfl,p,tb.2,by rw [<- w.length,<- U.length];exact gy hf,?_⟩;exact k .non P G _ (V.trans (W.trans st)) (I.set c s trivial M ⟨_,aN,dA.mono st (w.append (dA.ofP U))⟩) rfl
     .cases q
    | _=>cases q
noncomputable abbrev n0:=Lc->aJ->Option (List D×aJ)
inductive tDsI (K:FG) (f:n0) (σ:L2.St) (H:Hp) (Q:List V->Hp->Prop):Prop
 | mk (F:Aa) (m:List Addr) (L:Lc) (S:aJ) (ds:List D) (S':aJ) (h0_:Rel K F H m S) (h1_:RL K F H m σ L) (h2_:f L S=some (ds,S')) (h3_:∀xs F' m' H',Stp F m H F' m' H'->Rel K F' H' m' S'->dA K F' H' m' ds xs->Q xs H'):tDsI K f σ H Q
noncomputable def wJ (K:FG) (f:n0):TA:=fun N H Q=>tDsI K f N H Q
noncomputable def bf:n0:=fun _ S=>some ([],S)
noncomputable def ac (a:EE) (r:n0):n0:=fun L S=>aL (a L S) fun x h=>aL (r L h) fun s e=>some (x::s,e)
variable {es:Ab}{fs:n0}
theorem GR:PA X [] (wJ X.K bf):=hX.imp' fun N H Q h=>by obtain⟨F,m,L,S,d,x,r,l,q,k⟩:=h;cases q;exact k [] F m H .refl r rfl
theorem D2 (w:PE X e (tE X.K z)) (u:PA X es (wJ X.K fs)) (g:starEach (e::es) X.env=(false,eval e X.env)::starEach es X.env):PA X (e::es) (wJ X.K (ac z fs)):=
 (eY w u g).imp' fun N H Q i=>by obtain⟨F,m,L,S,d,c,r,l,q,k⟩:=i;obtain⟨x,h,t,q⟩:=ai q;obtain⟨B,D,p,q⟩:=ai q;cases q;refine⟨F,m,L,S,x,h,r,l,t,fun v n j C s P o=>?_⟩;refine⟨n,j,L,h,B,c,P,l.mono s,p,fun O f y b a A K=>?_⟩;exact k (v::O) f y b (s.trans a) A ⟨v,O,rfl,RD.mono a o,K⟩
noncomputable abbrev GF:=List D->aJ->Option (D×aJ)
inductive spRI (K:FG) (g:GF) (vs:List V) (H:Hp) (Q:VK):Prop
 | mk (F:Aa) (m:List Addr) (ds:List D) (S:aJ) (d:D) (S':aJ) (h0_:Rel K F H m S) (h1_:dA K F H m ds vs) (h2_:g ds S=some (d,S')) (h3_:∀v F' m' H',Stp F m H F' m' H'->Rel K F' H' m' S'->RD K F' H' m' d v->Q v H'):spRI K g vs H Q
noncomputable def oa (K:FG) (g:GF):Sp:=fun O H Q _=>spRI K g O H Q
noncomputable def fC (g:GF) (a:n0):EE:=fun L S=>aL (a L S) fun d h=>g d h
theorem Cp (G:FnOk X.prog X.w X.K X.mg X.base pF u f fd ps (oa X.K a0)) (A:Room u X.A) (o:Gl X x) (P:X.mg x=some (.ref f)) (K:PySem.W.keepIn X.K (.ref f)=true) (y:Binds X.K fd ps [])
  (j:PA X (e::es) (wJ X.K fs)) (h:(x == ("__debug__":Str))=false) (z:starEach (e::es) X.env=(false,eval e X.env)::starEach es X.env) (a:(backTo J (starEach es X.env)).any (·.1)=false) :
  PE X (.Call (.Name x p) (e::es) [] J) (tE X.K (fC a0 fs)):=
 (qu G A o P K y .nil oZ j h z a).imp' fun N H Q B=>by obtain⟨F,m,L,S,d,g,r,l,q,u⟩:=B;obtain⟨k,n,i,q⟩:=ai q;refine⟨F,m,L,S,k,n,r,l,i,fun R b C t s I p=>?_⟩;show oa X.K a0 (R++[]) t Q E0;rw [List.append_nil];exact⟨b,C,k,n,d,g,I,p,q,fun v c D w O M E=>u v c D w (s.trans O) M E⟩
noncomputable def w1 (n:Nat):D->Bool
 | .p _=>true
 | .ref i=>decide (i < n)
noncomputable def Du (n:Nat):SO->Bool
 | .lst d=>d.all (w1 n)
 | .dct _ d=>d.all (w1 n)
 | .fz _=>true
 | .ins _ _ d=>d.all (w1 n)
 | .exc _=>true
 | .dtt _ d=>d.all (w1 n)
noncomputable def trunc (n:Nat) (S:aJ):aJ:=if (S.take n).all (Du n)=true then S.take n else S
noncomputable def cB (g:GF) (a:n0):EV:=fun L S=>aL (a L S) fun s h=>aL (g s h) fun d x=>aL (toP 9 d x) fun v e=>some (v,trunc h.length e)
end
section
variable {K:FG}{F:Aa}{H:Hp}{m:List Addr}{S:aJ}
theorem RD.low (h:RD K F H m r v) (l:w1 n r=true):RD K F H (m.take n) r v:=by
 cases r with
 | p w=>exact h
 | ref i=>obtain⟨a,e,x⟩:=h;exact⟨a,e,by rw [iq (of_decide_eq_true l)];exact x⟩
theorem dA.low:∀{s:List D}{a:List V},dA K F H m s a->s.all (w1 n)=true->dA K F H (m.take n) s a
 | [],_,h,_=>h
 | d::s,_,h,l=>by obtain⟨x,r,e,k,f⟩:=h;rw [jW,Bool.and_eq_true] at l;exact⟨x,r,e,k.low l.1,dA.low f l.2⟩
theorem Rel.trunc (r:Rel K F H m S) (y:n≤m.length) (h:(S.take n).all (Du n)=true):Rel K F H (m.take n) (S.take n) where
 len:=by rw [io,io,r.len]
 nd:=r.nd.sublist (List.take_sublist _ _)
 obj:=fun i a o x t=>by
  have q:i < n:=by have:=(List.getElem?_eq_some_iff.mp x).1;rw [io] at this;lia
  rw [iq q] at x;have lo:=bQ.mp h o (bA t);rw [iq q] at t;have p:=r.obj i a o x t;cases o with
  | lst d=>obtain⟨l,s,b⟩:=p;exact⟨l,s,b.low lo⟩
  | dct u d=>obtain⟨k,s,e,b⟩:=p;exact⟨k,s,e,b.low lo⟩
  | fz v=>exact p
  | ins c u d=>obtain⟨C,g,k,j,s,e,b⟩:=p;exact⟨C,g,k,j,s,e,b.low lo⟩
  | exc c=>exact p
  | dtt u d=>obtain⟨k,s,e,b⟩:=p;exact⟨k,s,e,b.low lo⟩
 sep:=fun i a o x t w f=>by
  have q:i < n:=by have:=(List.getElem?_eq_some_iff.mp x).1;rw [io] at this;lia
  rw [iq q] at x t;exact r.sep i a o x t w f
 trk:=fun a h=>r.trk a (pQ h)
 ft:=r.ft
theorem Stp.trunc (s:Stp F m H v r u):Stp F m H v (r.take m.length) u:=by
 obtain⟨n,e⟩:=s.pre;have x:r.take m.length=m:=by rw [e];simp
 rw [x];exact⟨⟨[],by simp⟩,s.oth,s.frz,s.frk,s.tup,s.trk,s.nf,fun _ h=>.inl h⟩
end
section
variable {X:Cx}{e:Expr}{es:Ab}{fs:n0}{J:Pos}
theorem Af (G:FnOk X.prog X.w X.K X.mg X.base pF u f fd ps (oa X.K a0)) (Z:Room u X.A) (V:Gl X x) (Y:X.mg x=some (.ref f)) (W:PySem.W.keepIn X.K (.ref f)=true) (T:Binds X.K fd ps [])
  (R:PA X (e::es) (wJ X.K fs)) (b:(x == ("__debug__":Str))=false) (U:starEach (e::es) X.env=(false,eval e X.env)::starEach es X.env) (w:(backTo J (starEach es X.env)).any (·.1)=false) :
  PE X (.Call (.Name x p) (e::es) [] J) (tV X.K (cB a0 fs)):=
 (qu G Z V Y W T .nil oZ R b U w).imp' fun N H Q hz=>by
  obtain⟨F,m,L,S,d,S',r,l,q,u⟩:=hz;obtain⟨z,h,I,q⟩:=ai q;obtain⟨E,D,M,q⟩:=ai q;obtain⟨v1,a,O,q⟩:=ai q;cases q;refine⟨F,m,L,S,z,h,r,l,I,fun xs B g C A K p1=>?_⟩;show oa X.K a0 (xs++[]) C Q E0;rw [List.append_nil];refine⟨B,g,z,h,E,D,K,p1,M,fun v F2 i y s2 r2 p2=>?_⟩;obtain⟨j,s3,P,l3,o⟩:=nc 9 O r2 p2;have st:=s2.trans s3;have s:=K.len;by_cases c:(a.take h.length).all (Du h.length)=true
  .have t:Ev.trunc h.length a=a.take h.length:=if_pos c;rw [t] at u;have k:g.length≤i.length:=by
    obtain⟨nn,e⟩:=st.pre;rw [e,cO];lia
   have rt:=P.trunc (n:=h.length) (by rw [<- s];exact k) c;refine u v j (i.take g.length) y (A.trans st.trunc) ?_ o;rw [s];exact rt
  .have t:Ev.trunc h.length a=a:=if_neg c;rw [t] at u;exact u v j i y (A.trans st) P o
end
section
variable {X:Cx}{a b c e o i g:Expr}{C U q k Y:EV}{T z:EE}{J G:Pos}
noncomputable def nX (i:Expr):Prop:=∀(o:Expr) (J:Pos) (e:Env) (v:Value),assign (.Subscript o i J) e v=(do
 let h <- holding [v] (eval o e)
 let x <- holding [v,h] (eval i e)
 standAt J
 holding [v,h,x] (setItem h x v)
 release [v,h,x] [])
noncomputable def oW (o:EE) (k v:EV):ES:=fun L S=>aL (v L S) fun y x=>aL (o L x) fun d a=>aL (k L a) fun z h=>match dk d h,z with
 | some (i,s),.int n=>match w_ s.length n with
  | some j=>some (.nx,L,h.set i (.lst (s.set j (.p y))))
  | none=>none
 | _,_=>none
theorem dA.setAt {K:FG}{F:Aa}{H:Hp}{m:List Addr}{d:D}{v:V} (h:RD K F H m d v):∀{s:List D}{e:List V} (j:Nat),dA K F H m s e->dA K F H m (s.set j d) (e.set j v)
 | [],_,_,r=>by cases (show _=([]:List V) from r);exact rfl
 | _::_,_,0,r=>by obtain⟨x,a,rfl,p,r⟩:=r;exact⟨v,a,rfl,h,r⟩
 | _::_,_,j+1,r=>by obtain⟨x,a,rfl,p,r⟩:=r;exact⟨x,_,rfl,p,dA.setAt h j r⟩
theorem EH (ho:PE X o (tE X.K T)) (hi:PE X i (tV X.K k)) (hv:PE X g (tV X.K Y)) (hs:swapsWith g (some (.Subscript o i G)) J.line X.env=pure false) (hw:swappedStores [.Subscript o i G] g X.env=pure none) (P:nX i) :
  PS X (.Assign [.Subscript o i G] g J) (kP X.K (oW T k Y)):=(yw hv (C3 ho hi ye (P o G X.env)) hs hw).imp' fun D N H hz=>by
 obtain⟨F,m,L,S,fl,L',S',r,l,q,h⟩:=hz;obtain⟨y,I,e1,q⟩:=ai q;obtain⟨d,M,e2,q⟩:=ai q;obtain⟨z,O,e3,q⟩:=ai q;refine⟨F,m,L,S,y,I,r,l,e1,fun v E R H1 b r1 p1=>?_⟩;refine⟨E,R,L,I,d,M,r1,l.mono b,e2,fun x F2 m2 H2 c r2 p2=>?_⟩;refine⟨F2,m2,L,M,z,O,r2,(l.mono b).mono c,e3,fun w e f s p C p3=>?_⟩;cases K:dk d O with
 | none=>rw [K] at q;cases q
 | some t=>
  obtain⟨j,ds⟩:=t;rw [K] at q;cases z with
  | int n=>
   dsimp only at q;cases u:w_ ds.length n with
   | none=>rw [u] at q;cases q
   | some B=>
    rw [u] at q;cases q;obtain⟨rfl,es⟩:=kz K;obtain⟨a,rfl,A⟩:=RD.mono p p2;obtain⟨W,Q,V⟩:=C.obj j a _ A es;have pv:RD X.K e s f (.p y) v:=RD.mono p (RD.mono c (show RD X.K E H1 R (.p y) v from p1));cases (show w=.int n from p3);have U:∀Z,s a≠some (.tup Z):=fun Z z=>by rw [Q] at z;cases z
    have st:Stp e f s e f (cm s a (.lst (W.set B v))):=fK C A es trivial U;refine⟨a,W,n,B,rfl,rfl,Q,by rw [<- V.length];exact u,?_⟩;exact h N e f _ (b.trans (c.trans (p.trans st))) (C.set A es trivial U ⟨_,aN,dA.mono st (dA.setAt pv B V)⟩) (((l.mono b).mono c).mono (p.trans st))
  | _=>cases q
noncomputable def fm (o:EE) (k v:EV):ES:=fun L S=>match oh o k v L S with
 | some r=>some r
 | none=>oW o k v L S
theorem EI (u:X.A.units+1 < cLine) (p:PE X o (tE X.K T)) (t:PE X i (tV X.K k)) (d:PE X g (tV X.K Y)) (v:swapsWith g (some (.Subscript o i G)) J.line X.env=pure false) (hw:swappedStores [.Subscript o i G] g X.env=pure none) (b:nX i) :
  PS X (.Assign [.Subscript o i G] g J) (kP X.K (fm T k Y)):=fun B s N H D I h=>by
 obtain⟨F,m,L,S,f,a,e,r,l,q,x⟩:=h;cases n:oh T k Y L S with
 | some z=>
  have c:some z=some (f,a,e):=by have:=q;unfold fm at this;rw [n] at this;exact this
  cases c;exact Ij u p t d v B s N H D I ⟨F,m,L,S,f,a,e,r,l,n,x⟩
 | none=>
  have c:oW T k Y L S=some (f,a,e):=by have:=q;unfold fm at this;rw [n] at this;exact this
  exact EH p t d v hw b B s N H D I ⟨F,m,L,S,f,a,e,r,l,c,x⟩
noncomputable def k_ (g n:P->P->Option P) (a b c:EV):EV:=fun L S=>aL (a L S) fun x e=>aL (b L e) fun y h=>match g x y with
 | some (.bl true)=>aL (c L h) fun z s=>(n y z).map fun v=>(v,s)
 | some (.bl false)=>some (.bl false,h)
 | _=>none
theorem tM {g b:P->P->Option P}{N:L2.St}{H:Hp}{Q:VK} (h:tV X.K (k_ g b C U q) N H Q):uo (rP X.K g) (rP X.K b) (tV X.K C) (tV X.K U) (tV X.K q) N H Q:=by
 obtain⟨F,m,L,S,d,S',r,l,a,k⟩:=h;obtain⟨x,j,W,a⟩:=ai a;obtain⟨y,o,Y,a⟩:=ai a;refine⟨F,m,L,S,x,j,r,l,W,fun v J m1 H1 E r1 p1=>?_⟩;refine⟨J,m1,L,j,y,o,r1,l.mono E,Y,fun u M p H2 G A K=>?_⟩;cases f:g x y with
 | none=>rw [f] at a;cases a
 | some z=>
  rw [f] at a;cases z with
  | bl t=>
   refine⟨M,x,y,_,A.ft,RP.mono G p1,K,f,fun w n i c p3=>⟨t,p3,?_⟩⟩;have sh:Stp F m H n p i:=E.trans (G.trans c.stp);have B:=A.grow c;cases t with
   | false=>rw [if_neg bZ];cases a;exact k _ n p i sh B rfl
   | true=>
    rw [if_pos rfl];dsimp only at a;obtain⟨z,V,Z,a⟩:=ai a;refine⟨n,p,L,o,z,V,B,l.mono sh,Z,fun w' O m4 H4 I D p4=>?_⟩;cases e:b y z with
    | none=>rw [e] at a;cases a
    | some z2=>rw [e] at a;cases a;exact⟨O,y,z,_,D.ft,RP.mono I (RP.grow c K),p4,e,fun w2 R T s p5=>k w2 R m4 T (sh.trans (I.trans s.stp)) (D.grow s) p5⟩
  | _=>cases a
theorem Co (n:my X (compareOp u) r) (o:my X (compareOp v) L) (x:PE X a (tV X.K C)) (e:PE X b (tV X.K U)) (s:PE X c (tV X.K q)) (m:lastMarks [u,v] [b,c]=false) :
  PE X (.Compare a [u,v] [b,c] J) (tV X.K (k_ r L C U q)):=(yK n o x e s m).imp' fun _ _ _ h=>tM h
theorem Cd (y:my X (compareOp op) u) (o:my X (compareOp op') g') (w:PE X a (tV X.K C)) (g:PE X b (tV X.K U)) (i:PE X c (tV X.K q)) (j:lastMarks [op,op'] [b,c]=false) :
  PT X (.Compare a [op,op'] [b,c] J) (tQ X.K (bV (k_ u g' C U q))):=(yu y o w g i j).imp' fun N H Q h=>by
 refine tM ?_;obtain⟨F,m,L,S,d,P,r,l,e,k⟩:=h;obtain⟨x,A,t,e⟩:=ai e;cases x with
 | bl b=>cases e;exact⟨F,m,L,S,_,_,r,l,t,fun v n z f s K p=>⟨_,p,k n z f s K⟩⟩
 | _=>cases e
noncomputable def ul:P->Option Bool
 | .non=>some false
 | .bl b=>some b
 | .int i=>some (i != 0)
 | .str x=>if gc x.length=true then some ((x.length:Int) != 0) else none
 | .tup s=>some (!s.isEmpty)
 | .lst s=>some (!s.isEmpty)
 | .ro s=>some (!s.isEmpty)
 | .dct k _=>some (!k.isEmpty)
noncomputable def xY:D->aJ->Option Bool
 | .p v,_=>ul v
 | .ref i,S=>match S[i]? with
  | some (.lst d)=>some (!d.isEmpty)
  | some (.dct k _)=>some (!k.isEmpty)
  | some (.fz v)=>ul v
  | _=>none
noncomputable def bT (f:EE):EB:=fun L S=>aL (f L S) fun d h=>(xY d h).map fun b=>(b,h)
theorem g7 {x:List d}{y:List l} (h:x.length=y.length):x.isEmpty=y.isEmpty:=by cases x <;> cases y <;> first | rfl | simp at h
theorem vq (p:RP X.K F H w v) (h:ul w=some r):Ee X.K v H r:=by
 cases w with
 | non=>cases (show v=.non from p);cases h;rfl
 | bl b=>cases (show v=.bl b from p);cases h;rfl
 | int b=>cases (show v=.int b from p);cases h;rfl
 | str x=>
  cases (show v=.str x from p);simp only [ul] at h;split at h
  .rename_i c;cases h;exact⟨gy c,rfl⟩
  .cases h
 | tup d=>obtain⟨a,s,rfl,t,e⟩:=p;cases h;exact .inr (.inl ⟨s,t.sq,by rw [g7 e.length]⟩)
 | lst d=>obtain⟨a,s,rfl,t,e⟩:=p;cases h;exact .inl ⟨s,t.sq,by rw [g7 e.length]⟩
 | ro d=>obtain⟨a,s,rfl,t,e⟩:=p;cases h;exact .inl ⟨s,t.sq,by rw [g7 e.length]⟩
 | dct m d=>obtain⟨a,k,rfl,_,f,n,e⟩:=p;cases h;exact .inr (.inr ⟨k,f,by rw [<- n];cases k <;> rfl⟩)
theorem yT (h:PE X e (tE X.K z)) (D:∀o,isTrue e X.env o=(do let v <- o;standAt e.pos;holding [v] (truthy v))):PT X e (tQ X.K (bT z)):=
 (yt h D).imp' fun N H Q E=>by
  obtain⟨F,m,L,S,d,M,r,l,q,k⟩:=E;obtain⟨x,P,B,q⟩:=ai q;cases s:xY x P with
  | none=>rw [s] at q;cases q
  | some t=>
   rw [s] at q;cases q;refine⟨F,m,L,S,x,_,r,l,B,fun v y G K I b g=>⟨_,?_,k y G K I b⟩⟩;cases x with
   | p w=>exact vq g s
   | ref j=>
    obtain⟨a,rfl,u⟩:=g;simp only [xY] at s;split at s
    .rename_i A n;cases s;obtain⟨J,c,i⟩:=b.obj j a _ u n;exact .inl ⟨J,gY.of c,by rw [g7 i.length]⟩
    .rename_i O A n;cases s;obtain⟨f,c,C,i⟩:=b.obj j a _ u n;exact .inr (.inr ⟨f,c,by rw [<- C];cases f <;> rfl⟩)
    .rename_i w n;exact vq (b.obj j a _ u n) s
    .cases s
noncomputable def qo (g:iY) (f:EV):ES:=fun L S=>aL (f L S) fun v x=>match g v L with
 | some h=>some (.nx,h,x)
 | none=>none
theorem Ih (p:PE X e (tV X.K C)) (d:PG X tg (gT X.K u)) (w:swapsWithSole [tg] e J.line X.env=pure false) (hw:swappedStores [tg] e X.env=pure none) (t:(assignEach [tg] X.env).map (·.2)=[assign tg X.env]) :
  PS X (.Assign [tg] e J) (kP X.K (qo u C)):=(yw p d w hw t).imp' fun D N H z=>by
 obtain⟨F,m,L,S,P,o,K,r,l,q,k⟩:=z;obtain⟨v,b,c,q⟩:=ai q;refine⟨F,m,L,S,v,b,r,l,c,fun x a s f n y j=>?_⟩;cases g:u v L with
 | none=>rw [g] at q;cases q
 | some L2=>rw [g] at q;cases q;exact⟨a,s,L,v,_,l.mono n,j,g,fun h i=>k h a s f n y i⟩
noncomputable def aG:P->P->Option P
 | .tup [],.tup s=>some (.tup s)
 | x,y=>rG x y
theorem D8 {M:Program}{w:World}{A:Around}{E:VP}{s:Shared}{t b:Addr}{a:LV}{Q:VP} (n:IsTup s.heap t #[]) (e:IsTup s.heap b a.toArray) (h:Q (.ref b) s):wpAny (model M w) A (binaryOp .Add (.ref t) (.ref b)) Q E s:=by obtain⟨o,g,k,m,l⟩:=id n;obtain⟨p,x,f,r,c⟩:=id e;cases o;cases p;cases k;cases l;cases f;cases c;exact concat_meets ⟨_,g,rfl⟩ ⟨_,x,rfl⟩ noFill_tuple_add seq_tuple_add t5 ua (ud _ _) (tuple_addW0 t b #[] a.toArray m r _ _ _ _ rfl) ⟨g,x,h⟩
theorem Dk:my X (binaryOp .Add) aG:=by
 intro B s N H x y v u Q I r m h;obtain⟨F,e,n,d,t,c,p,q,k⟩:=h;have o:rG e n=some d->wpAny (model X.prog X.w) X.A (binaryOp .Add v u) (EP X B N Q) X.xe s:=fun q=>F4 B s N H x y v u Q I r m ⟨F,e,n,d,t,c,p,q,k⟩
 cases e with
 | tup f=>
  cases n with
  | tup es=>
   cases f with
   | nil=>cases q;obtain⟨a,P,rfl,S,z⟩:=c;obtain⟨b,D,rfl,K,C⟩:=id p;cases (show P=[] from z);cases r;cases m;obtain⟨w,l,g,_⟩:=I.tuple S.sq;obtain⟨i,A,j,_⟩:=I.tuple K.sq;cases l;exact D8 g j ⟨.ref b,H,I,rfl,k _ F H .refl p⟩
   | cons _ _=>exact o q
  | _=>cases f <;> exact o q
 | _=>exact o q
noncomputable def vd (K:FG) (m:SV) (x:Str) (v:P):Prop:=∃u w,m x=some u/\RelV w u/\∀F H,RP K F H v w
theorem EY (g:Gl X x) (h:vd X.K X.mg x v) (hd:(x == ("__debug__":Str))=false):PE X (.Name x J) (tV X.K (vC v)):=by obtain⟨u,w,m,r,p⟩:=h;exact xC (AV g m r hd) p
end
section
variable {X:Cx}{a:Expr}{C:EE}{p J:Pos}
noncomputable def uK (T:String):D->aJ->Option Bool
 | .p v,_=>some (iG T v)
 | .ref i,S=>match S[i]? with
  | some (.lst _)=>some (iG T (.lst []))
  | some (.dct _ _)=>some (iG T (.dct [] []))
  | some (.fz v)=>some (iG T v)
  | _=>none
noncomputable def ui (T:String) (f:EE):EV:=fun L S=>aL (f L S) fun d h=>(uK T d h).map fun b=>(.bl b,h)
theorem xA (T:∀K:FG,∀v:P,PySem.W.kitOne K (.type (z6 v)) (.type L)=some (iG L v)) :
  dh X (.builtin "isinstance") (fun y H Q=>∃F m S d b x,y=[x,.ty L]/\Rel X.K F H m S/\RD X.K F H m d x/\uK L d S=some b/\Q (.bl b) H):=by
 intro B s N H y U Q I r h;obtain⟨F,m,S,d,b,x,rfl,l,pd,i,q⟩:=h;have plain:∀w:P,RP X.K F H w x->iG L w=b->wpAny (model X.prog X.w) X.A _ _ _ _:=fun w hw e=>zN T B s N H [x,.ty L] U Q I r ⟨F,w,x,rfl,hw,by rw [e];exact q⟩
 cases d with
 | p w=>cases i;exact plain w pd rfl
 | ref j=>
  obtain⟨a,rfl,t⟩:=pd;simp only [uK] at i;obtain⟨u,V,rfl,A,g⟩:=vals2 r;cases (show V=Value.type L from g);have f:∀C,EP X B N Q (.bool b) { s with toks:=C }:=fun C=>⟨.bl b,H,I.tok _,rfl,q⟩;split at i
  .rename_i D k;obtain⟨y,c,R⟩:=l.obj j a _ t k;have e:=T X.K (.lst []);rw [show iG L (.lst [])=b by cases i;rfl] at e;cases A;obtain⟨J,_,O,_⟩:=I.list (gY.of c);obtain⟨o,n,E,G,_⟩:=O;exact eI mV I.kIn ⟨o,E,G⟩ e (fun z=>nomatch z) f
  .rename_i Y D k;obtain⟨M,c,W,R⟩:=l.obj j a _ t k;have e:=T X.K (.dct [] []);rw [show iG L (.dct [] [])=b by cases i;rfl] at e;exact gC I A (.dK c) e f
  .rename_i w k;exact plain w (l.obj j a _ t k) (by cases i;rfl)
  .cases i
theorem EN (T:∀K:FG,∀v:P,PySem.W.kitOne K (.type (z6 v)) (.type u)=some (iG u v)) (o:Gl X "isinstance") (A:X.mg "isinstance"=none) (h:Gl X tn) (n:X.mg tn=none) (z:bootBuiltins tn=some (.type u)) (y:PE X a (tE X.K C))
  (B:tn≠"__name__") (hd:(tn == ("__debug__":Str))=false) (c:starEach [a,.Name tn p2] X.env=[(false,eval a X.env),(false,eval (.Name tn p2) X.env)]):PE X (.Call (.Name "isinstance" p) [a,.Name tn p2] [] J) (tV X.K (ui u C)):=
 (ky (xA T) o A PyProof.Rows.boot_isinstance (eY y (eY (AW (v:=.ty u) h n z rfl B hd) hX rfl) (by rw [c];rfl)) (by decide) (by decide) (by rw [c];rfl) rfl).imp' fun N H Q D=>by
  obtain⟨F,m,L,S,d,G,r,l,q,k⟩:=D;obtain⟨x,i,j,q⟩:=ai q;cases e:uK u x i with
  | none=>rw [e] at q;cases q
  | some b=>rw [e] at q;cases q;exact⟨F,m,L,S,_,_,r,l,j,fun v f t g s w E=>⟨f,t,_,x,b,v,rfl,w,E,e,k _ f t g s w rfl⟩⟩
end
noncomputable def gM (f:Str):LS->List D->Option D
 | k::h,d::s=>if k=f then some d else gM f h s
 | _,_=>none
noncomputable def putK (f:Str):LS->LS
 | []=>[f]
 | k::s=>if k=f then k::s else k::putK f s
noncomputable def nl (f:Str) (y:D):LS->List D->List D
 | [],_=>[y]
 | k::h,d::s=>if k=f then y::s else d::nl f y h s
 | _::_,[]=>[]
noncomputable def iZ (K:FG) (c:Str) (C:Addr):Prop:=PySem.W.nsIn K mainGlobals c=some (some (.ref C))
variable {K:FG}
theorem iZ.inj (h:iZ K c r) (x:iZ K c v):r=v:=by have:=h.symm.trans x;cases this;rfl
noncomputable def Ig (K:FG) (A:Str->Str->Bool):Prop:=∀c f,A c f=true->∃C,iZ K c C/\Cls K C/\ki K C f
section
variable {K:FG}{F:Aa}{H:Hp}{m:List Addr}
theorem vO:∀{a:List (Str×V)}{s:List D}{d:D},dA K F H m s (a.map (·.2))->gM f (a.map (·.1)) s=some d->∃v,a.lookup f=some v/\RD K F H m d v
 | [],s,d,_,h=>by cases s <;> cases h
 | (k,x)::r,s,d,q,h=>by
  cases s with
  | nil=>cases h
  | cons w s=>
   obtain⟨y,u,e,t,p⟩:=q;simp only [List.map_cons,mG] at e;obtain⟨rfl,rfl⟩:=e;simp only [List.map_cons,gM] at h;split at h
   .rename_i n;cases h;subst n;exact⟨x,by simp [List.lookup],t⟩
   .rename_i n;obtain⟨v,b,c⟩:=vO p h;exact⟨v,by rw [pI,show (f == k)=false by simpa using fun z=>n z.symm];exact b,c⟩
theorem vN:∀{v:List (Str×V)},(v.map (·.1)).contains f=false->v.lookup f=none
 | [],_=>rfl
 | (k,x)::r,h=>by simp only [List.map_cons,List.contains_cons,Bool.or_eq_false_iff] at h;rw [pI,h.1];exact vN h.2
theorem yr (h:RD K F H m u v):∀{s:List (Str×V)}{d:List D},dA K F H m d (s.map (·.2))->(hV f v s).map (·.1)=putK f (s.map (·.1))/\dA K F H m (nl f u (s.map (·.1)) d) ((hV f v s).map (·.2))
 | [],d,n=>⟨rfl,v,[],rfl,h,rfl⟩
 | (k,x)::r,d,n=>by
  cases d with
  | nil=>cases (show _=([]:List V) from n)
  | cons p d=>
   obtain⟨z,q,e,c,a⟩:=n;simp only [List.map_cons,mG] at e;obtain⟨rfl,rfl⟩:=e;by_cases b:k=f
   .simp only [hV,b,iw,List.map_cons,putK,nl];first | exact⟨rfl,v,_,rfl,h,a⟩ | exact⟨trivial,v,_,rfl,h,a⟩
   .obtain⟨i,t⟩:=yr h a;simp only [hV,b,if_false,List.map_cons,putK,nl];exact⟨by rw [i],x,_,rfl,c,t⟩
end
section
variable {X:Cx}{o e g:Expr}{f:Str}{J G j:Pos}{T Y:EE}{A:Str->Str->Bool}{es:Ab}{fs:n0}
noncomputable def dP (A:Str->Str->Bool) (o:EE) (f:Str):EE:=fun L S=>aL (o L S) fun d h=>match d with
 | .ref i=>match h[i]? with
  | some (.ins c k s)=>if A c f=true then (gM f k s).map fun z=>(z,h) else none
  | _=>none
 | _=>none
theorem IH (B:Ig X.K A) (R:PE X o (tE X.K T)) (G:attributeBase o f X.env (eval o X.env)=eval o X.env):PE X (.Attribute o f J) (tE X.K (dP A T f)):=(C9 R G).imp' fun N H Q V=>by
 obtain⟨F,m,L,S,d,S',r,l,q,k⟩:=V;obtain⟨x,u,y,q⟩:=ai q;refine⟨F,m,L,S,x,u,r,l,y,fun v b Y t s1 n Z=>?_⟩;cases x with
 | p w=>cases q
 | ref i=>
  obtain⟨a,rfl,M⟩:=Z;dsimp only at q;split at q
  .rename_i c W g U;split at q
   .rename_i E;cases h:gM f W g with
    | none=>rw [h] at q;cases q
    | some z=>rw [h] at q;cases q;obtain⟨C,j,s,P,D,rfl,rs⟩:=n.obj i a _ M U;obtain⟨C',e,I,O⟩:=B c f E;cases iZ.inj P e;obtain⟨v,K,p3⟩:=vO rs h;exact⟨a,C,j,s,v,rfl,D,I,O,K,k v b Y t s1 n p3⟩
   .cases q
  .cases q
noncomputable def ku (A:Str->Str->Bool) (o:EE) (f:Str) (v:EE):ES:=fun L S=>aL (v L S) fun y x=>aL (o L x) fun d h=>match d with
 | .ref i=>match h[i]? with
  | some (.ins c k s)=>if (A c f && decide (k.length < 900))=true then some (.nx,L,h.set i (.ins c (putK f k) (nl f y k s))) else none
  | _=>none
 | _=>none
theorem EJ (hA:Ig X.K A) (ho:PE X o (tE X.K T)) (hv:PE X g (tE X.K Y)) (h:swapsWith g (some (.Attribute o f G)) J.line X.env=pure false):PS X (.Assign [.Attribute o f G] g J) (kP X.K (ku A T f Y)):=(CY ho hv h).imp' fun D N H hz=>by
 obtain⟨F,m,L,S,fl,L',S',r,l,q,k⟩:=hz;obtain⟨y,I,W,q⟩:=ai q;obtain⟨d,V,Z,q⟩:=ai q;refine⟨F,m,L,S,y,I,r,l,W,fun v U m1 H1 B r1 p1=>?_⟩;refine⟨U,m1,L,I,d,V,r1,l.mono B,Z,fun x e K n E P p2=>?_⟩;cases d with
 | p w=>cases q
 | ref i=>
  obtain⟨a,rfl,j⟩:=p2;dsimp only at q;split at q
  .rename_i c ks ds h;split at q
   .rename_i u;rw [Bool.and_eq_true] at u;cases q;obtain⟨C,b,s,M,O,rfl,rs⟩:=P.obj i a _ j h;obtain⟨C',t,hc,hn⟩:=hA c f u.1;cases iZ.inj M t;have hl:s.length < 1000:=by have:=of_decide_eq_true u.2;rw [bP] at this;lia
    have Q:∀R,n a≠some (.tup R):=fun R z=>by rw [O] at z;cases z
    have st:Stp e K n e K (cm n a (.ins C b (hV f v s))):=fK P j h trivial Q;obtain⟨i1,i2⟩:=yr (f:=f) (RD.mono st (RD.mono E p1)) (dA.mono st rs);exact⟨a,C,b,s,rfl,O,hc,hn,hl,k N e K _ (B.trans (E.trans st)) (P.set j h trivial Q ⟨C,b,_,M,aN,i1,i2⟩) ((l.mono B).mono (E.trans st))⟩
   .cases q
  .cases q
noncomputable def dG (M:Str->Str->Option GF) (o:EE) (y:Str) (a:n0):EE:=fun L S=>aL (o L S) fun d h=>match d with
 | .ref i=>match h[i]? with
  | some (.ins c k _)=>match M c y with
   | some g=>if k.contains y=true then none else aL (a L h) fun O x=>g (.ref i::O) x
   | none=>none
  | _=>none
 | _=>none
noncomputable def Ib (X:Cx) (M:Str->Str->Option GF):Prop:=∀c y g,M c y=some g->∃C k f d p,iZ X.K c C/\Cls X.K C/\Meth X.K C y f/\FnOk X.prog X.w X.K X.mg X.base pF k f d p (oa X.K g)/\Room k X.A/\Binds X.K d p []
variable {M:Str->Str->Option GF}{y:Str}
theorem o5 (hM:Ib X M) {t:TE}{ta:TA} (n:∀C k f b ps g,Cls X.K C->Meth X.K C y f->FnOk X.prog X.w X.K X.mg X.base pF k f b ps (oa X.K g)->Room k X.A->Binds X.K b ps []->PE X e (yb C y (oa X.K g) [] E0 (tE X.K T) (wJ X.K fs))):PE X e (tE X.K (dG M T y fs)):=by
 intro B s N H Q I h;obtain⟨F,m,L,S,d,Y,r,l,q,k⟩:=h;obtain⟨x,o,e1,q⟩:=ai q;cases x with
 | p w=>cases q
 | ref i=>
  dsimp only at q;split at q
  .rename_i c ks ds hs;split at q
   .rename_i g hg;split at q
    .cases q
    .rename_i hk;obtain⟨O,K,e2,q⟩:=ai q;obtain⟨C,kk,f,b,ps,ec,hc,hm,hF,hr,hb⟩:=hM c y g hg;refine n C kk f b ps g hc hm hF hr hb B s N H Q I ⟨F,m,L,S,.ref i,o,r,l,e1,fun v G m1 H1 D A P=>?_⟩;obtain⟨a,rfl,j⟩:=id P;obtain⟨C',Z,z,u,hH,rfl,rs⟩:=A.obj i a _ j hs;cases iZ.inj ec u;refine⟨a,Z,z,rfl,hH,vN (by simpa using hk),G,m1,L,o,O,K,A,l.mono D,e2,fun xs J m2 U E r2 p2=>?_⟩;show oa X.K g (V.ref a::(xs++[])) U Q E0;rw [List.append_nil];exact⟨J,m2,.ref i::O,K,d,Y,r2,⟨_,_,rfl,RD.mono E P,p2⟩,q,fun v R m3 W s3 r3 p3=>k v R m3 W (D.trans (E.trans s3)) r3 p3⟩
   .cases q
  .cases q
theorem EW (x:Ib X M) (n:PE X o (tE X.K T)) (a:PA X (e::es) (wJ X.K fs)) (s:starEach (e::es) X.env=(false,eval e X.env)::starEach es X.env) (h:(backTo J (starEach es X.env)).any (·.1)=false)
  (p:eval (.Call (.Attribute o y j) (e::es) [] J) X.env=(do
   let v <- eval o X.env
   standAt j.atName
   let (f,first) <- holding [v] (getMethod v y u)
   callWith J f first (backTo J (starEach (e::es) X.env)) (backToKw J (keywordEach [] X.env)))) :
  PE X (.Call (.Attribute o y j) (e::es) [] J) (tE X.K (dG M T y fs)):=
 o5 (t:=tE X.K T) (ta:=wJ X.K fs) x fun C k f d q g c m F r b=>AT n c m F r b .nil oZ a s h p
theorem Ch (i:Ib X M) (B:PE X o (tE X.K T))
  (E:eval (.Call (.Attribute o y j) [] [] J) X.env=(do
   let u <- eval o X.env
   standAt j.atName
   let (f,first) <- holding [u] (getMethod u y pl)
   callWith J f first (backTo J (starEach [] X.env)) (backToKw J (keywordEach [] X.env)))) :
  PE X (.Call (.Attribute o y j) [] [] J) (tE X.K (dG M T y bf)):=
 o5 (t:=tE X.K T) (ta:=wJ X.K bf) i fun C k f fd ps g K A p D z=>(yC B K A p D z .nil oZ E).imp' fun N H Q h=>by obtain⟨F,m,L,S,d,n,r,l,q,k⟩:=h;refine⟨F,m,L,S,d,n,r,l,q,fun v e I x Y V R=>?_⟩;obtain⟨a,c,fs,rfl,w,P,s,O,L2,Z,ds,b,W,l2,U,G⟩:=k v e I x Y V R;cases U;exact⟨a,c,fs,rfl,w,P,G [] s O x .refl W rfl⟩
noncomputable def pa (g:GF) (c:Str) (a:n0):EE:=fun L S=>aL (a L S) fun O h=>match g (.ref h.length::O) (h++[.ins c [] []]) with
 | some (.p .non,x)=>some (.ref h.length,x)
 | _=>none
theorem EX {C f:Addr}{o:FuncData}{ps:LS}{k:Nat}{x:Str}{p:Pos}{g:GF} (M:Mk X.K C f) (G:FnOk X.prog X.w X.K X.mg X.base pF k f o ps (oa X.K g)) (hr:Room (k+1) X.A) (Z:Gl X x) (hm:X.mg x=some (.ref C)) (U:iZ X.K x C) (W:Binds X.K o ps [])
  (V:PA X (e::es) (wJ X.K fs)) (i:(x == ("__debug__":Str))=false) (Y:starEach (e::es) X.env=(false,eval e X.env)::starEach es X.env) (z:(backTo J (starEach es X.env)).any (·.1)=false) :
  PE X (.Call (.Name x p) (e::es) [] J) (tE X.K (pa g x fs)):=
 (AU M G hr Z hm W .nil oZ V i Y z).imp' fun N H Q hz=>by
  obtain⟨F,m,L,S,d,S',r,l,q,k⟩:=hz;obtain⟨O,t,I,q⟩:=ai q;refine⟨F,m,L,S,O,t,r,l,I,fun xs s a b s1 K p1=>fun y h hy w j=>?_⟩;split at q
  .rename_i _ S2 R;cases q;have P:Stp s a b s a (cm b h (.own y)):=iz w;have r2:Rel X.K s (cm b h (.own y)) a t:=K.new w;have u:cm b h (.own y) y=none:=by rw [aE (Ne.symm j)];exact hy
   have A:Stp s a (cm b h (.own y)) s (a++[y]) (cm (cm b h (.own y)) y (.ins C h [])):=gq u;have r3:Rel X.K s (cm (cm b h (.own y)) y (.ins C h [])) (a++[y]) (t++[.ins x [] []]):=r2.own u ⟨C,h,[],U,aN,rfl,rfl⟩;rw [List.append_nil];have c:(a++[y])[t.length]? = some y:=by rw [<- K.len,fZ (Nat.le_refl _)];simp
   refine⟨s,a++[y],.ref t.length::O,_,.p .non,_,r3,⟨_,_,rfl,⟨y,rfl,c⟩,dA.mono A (dA.mono P p1)⟩,R,fun v D m4 E B r4 p4=>⟨p4,?_⟩⟩;refine k (.ref y) D m4 E (s1.trans (P.trans (A.trans B))) r4 ⟨y,rfl,?_⟩;obtain⟨n,T⟩:=B.pre;rw [T,List.getElem?_append_left (List.getElem?_eq_some_iff.mp c).1];exact c
  .cases q
end
theorem Dr (h:attributeBase o y v (eval o v)=eval o v) (e:methodCallForm (r.length+([]:List Keyword).length) (backTo J (starEach r v)) (backToKw J (keywordEach [] v))=true) (l:(j.endLine == J.line)=true) :
  eval (.Call (.Attribute o y j) r [] J) v=(do
   let u <- eval o v
   standAt j.atName
   let (f,first) <- holding [u] (getMethod u y (do return (<- importBound o v).getD true))
   callWith J f first (backTo J (starEach r v)) (backToKw J (keywordEach [] v))):=by
 have x:methodCallPos true o v j J=pure J:=by unfold methodCallPos;rw [l];rfl
 have a:∀u,methodCall o y j J v u (r.length+([]:List Keyword).length) (backTo J (starEach r v)) (backToKw J (keywordEach [] v))=(do
   let (f,first) <- holding [u] (getMethod u y (do return (<- importBound o v).getD true))
   callWith J f first (backTo J (starEach r v)) (backToKw J (keywordEach [] v))):=fun u=>by
  unfold methodCall;rw [e,x];rfl
 have s:eval (.Call (.Attribute o y j) r [] J) v=(do
  let u <- attributeBase o y v (eval o v)
  standAt j.atName
  methodCall o y j J v u (r.length+([]:List Keyword).length) (backTo J (starEach r v)) (backToKw J (keywordEach [] v))):=by rfl
 rw [s,h];simp only [a]
open PySem.W (KasT kas_sort kas_ask kas_item kat_run kat_snds kat_lt kat_kind KatTups KatLex kat_nil kat_cons kat_yes kat_no kat_one)
noncomputable def Bl (lt:Nat->Nat->Option Bool):KasT d->Option d
 | .ret a=>some a
 | .ask i j k=>match lt i j with
  | some b=>Bl lt (k b)
  | none=>none
theorem zy (c:∀i j b C,lt i j=some b->C b s->r i j C s) (q:Q a s) :
  ∀(t:KasT d),Bl lt t=some a->t.kasWp r Q s
 | .ret _,h=>by cases h;exact q
 | .ask i j k,h=>by
  simp only [Bl] at h;split at h
  .rename_i b x;exact c i j b _ x (zy c q (k b) h)
  .cases h
section
variable {I:Program}{w:World}{A:Around}{E:VP}{s:Shared}{D:Addr}{O:LV}
theorem sX (few:O.length < 2):((arrOf (SortSt.mk' general' (O.toArray.zip O.toArray) #[] 7 none)).map (·.2))=O.toArray:=by
 have same:(O.toArray.zip O.toArray).map (·.2)=O.toArray:=by
  rcases O with _ | ⟨v,_ | ⟨u,r⟩⟩
  .simp
  .simp
  .exact absurd few (by simp)
 exact same
theorem zx (few:O.length < 2) (a:s.heap.get? D=some (seqObj "list" O.toArray r))
  (g:∀x c,(∀b o,b≠D->s.heap.get? b=some o->x.get? b=some o)->x.get? D=some (seqObj "list" O.toArray c)->v (.done (.ret .none)) { s with heap:=x }) :
  wpAny (model I w) A (Builtin.«list.sort» ⟨[.ref D],[]⟩) v E s:=by
 have m:O.length+1≤sizeLine:=by rw [kR];lia
 have cond:O.toArray.size < 2:=by simpa using few
 have h:=get?_update_seq a fun _=>(#[]:Array Value);rw [list_sort_plain];refine wpAny_bind <| listItems_at a rfl <| wpAny_bind <| listUpdate_at a rfl (wpAny_bind <| seqEpoch_at h rfl <| wpAny_bind <| wpAny_newTuple (wpAny_bind <| wpAny_newList (wpAny_holding ?_) (Nat.zero_le _)) (by simpa using p0 m)) (by simpa using p0 m) (Nat.zero_le _);simp only [cond,iw];have k:∀b o,(s.heap.update D (Obj.mapSeq fun _=>(#[]:Array Value))).get? b=some o->((((s.heap.update D (Obj.mapSeq fun _=>(#[]:Array Value))).push { cls:=.type "tuple",data:=.seq O.toArray }).push { cls:=.type "list",data:=.seq ([]:LV).toArray })).get? b=some o:=
  fun _ _ q=>Heap.get?_push_of_some _ (Heap.get?_push_of_some _ q)
 have t:=k D _ h;refine wpAny_bind <| wpAny_pure <| wpAny_bind <| wpAny_pure ?_;refine wpAny_bind <| seqEpoch_at t rfl <| wpAny_bind <| listUpdate_at t rfl ?_ (Nat.zero_le _) (by rw [sX few];simpa using Nat.le_succ_of_le (p0 m));rw [sX few];have Ea:=get?_update_seq t fun _=>O.toArray;simp only [bne_self_eq_false,Bool.false_eq_true,if_false,failedOf];refine wpAny_pure (g _ _ (fun b o n e=>?_) Ea);exact ((pM _ D _).2 b n).trans (k b o (((pM s.heap D _).2 b n).trans e))
theorem tX (q:∀a u,Q a u->r a u):∀(t:KasT d) (u:Shared),t.kasWp (kas_ask I w A v O) Q u->t.kasWp (kas_ask I w A v O) r u
 | .ret a,u,h=>q a u h
 | .ask _ _ k,_,h=>wpAny_mono h (fun b u e=>tX q (k b) u e) fun _ _ x=>x
theorem Av {a:Heap}{L l:Addr}{m:SV}{t:PN}{T:String}{o:Obj}{n:Nat}{G:VP} (F:Fr a L s.heap m) (N:News a L s.heap t) (Z:T="list"\/T="tuple") (ho:s.heap.get? l=some o) (hc:o.cls=.type T) (hd:o.data=.seq O.toArray n) (B:O.length < 64)
  (X:O.length < 2->∀D d c,s.heap.get? D=none->Fr a L d m->News a L d ((D,seqObj "list" O.toArray c)::t)->G (.ref D) { s with heap:=d })
  (Y:2≤O.length->∀D e d,s.heap.get? D=none->(∀q ∈ t,q.1≠D)->Fr a L d m->News a L d ((D,seqObj "list" #[] e)::t) ->
   wpAny (model I w) A.in1.in1 (keyKind' O.toArray) (fun Q u=>(kas_sort O.length).kasWp (kas_ask I w A.in1.in1 Q O) (fun p u=>PySem.W.KasFin a L m D e (p.toList.map fun i=>O.getD i Value.none) (fun u=>G (.ref D) u) u) u) (fun _ _=>False) { s with heap:=d }) :
  wpAny (model I w) A (call (.builtin "sorted") [.ref l]) G E s:=by
 have y:O.length≤sizeLine:=by rw [kR];lia
 refine Calls.call_function_entry (b:=Builtin.«sorted») kind_sorted plain_sorted entry_sorted (args_sorted1 (.ref l)) (wpAny_bind (m:=checkCount "sorted" 1 1 1) <| wpAny_pure <| wpAny_bind <| wpAny_collect_seq l Z ho hc hd (fun h k=>wpAny_bind <| wpAny_newList ?_ y) y);have f:∀b,b=h.objs.size->s.heap.get? b=none:=fun b hb=>by
  cases q:s.heap.get? b with
  | none=>rfl
  | some u=>exact absurd (Heap.lt_size (k b u q)) (by rw [hb];exact i5 _)
 have M:∀b u,s.heap.get? b=some u->(h.push { cls:=.type "list",data:=.seq O.toArray }).get? b=some u:=fun b u e=>Heap.get?_push_of_some _ (k b u e);have j:(h.push { cls:=.type "list",data:=.seq O.toArray }).get? h.objs.size=some (seqObj "list" O.toArray 0):=Heap.get?_push_size _ rfl;have H:h.objs.size≠L:=fun z=>by obtain⟨u,_,_,e,_⟩:=F.ns;rw [f L z.symm] at e;cases e
 have S:a.get? h.objs.size=none:=by
  rcases q:a.get? h.objs.size with _ | u
  .rfl
  .have:=F.keep _ _ q;rw [f _ rfl] at this;cases this
 have neN:∀q ∈ t,q.1≠h.objs.size:=fun q hq z=>by have:=(N q hq).1;rw [f _ z] at this;cases this
 have K:=F.keeps M;have P:=N.keeps M;refine wpAny_bind (wpAny_holding (wpAny_call_entry (b:=Builtin.«list.sort») slot_list_sort ⟨_,j,rfl⟩ entry_list_sort ?_ (args_list_sort _)));by_cases few:O.length < 2
 .refine zx (s:={ s with heap:=h.push { cls:=.type "list",data:=.seq O.toArray } }) few j fun d c J e=>⟨_,rfl,wpAny_pure ⟨_,rfl,X few _ d c (f _ rfl) ⟨?_,fun b u q=>?_,F.above⟩ fun q g=>?_⟩⟩
  .obtain⟨u,es,W,V,r⟩:=K.ns;exact⟨u,es,W,J L u H.symm V,r⟩
  .exact J b u (fun z=>by rw [z,S] at q;cases q) (K.keep b u q)
  .rcases az.mp g with rfl | g
   .exact⟨e,H,S⟩
   .exact⟨J _ _ (neN q g) (P q g).1,(P q g).2⟩
 .refine PySem.W.kat_list_sort (s:={ s with heap:=h.push { cls:=.type "list",data:=.seq O.toArray } }) K P j H S neN (by lia) B fun e d R U=>?_;refine wpAny_mono (Y (by lia) _ e d (f _ rfl) neN R U) (fun Q u hu=>?_) fun _ _ x=>x;exact tX (fun p v C=>C.mono fun v C=>⟨_,rfl,wpAny_pure ⟨_,rfl,C⟩⟩) _ _ hu
end
noncomputable def isInt:P->Bool
 | .int _=>true
 | _=>false
noncomputable def uH:List P->List P->Option Bool
 | [],s=>some (decide (0 < s.length))
 | _::_,[]=>some false
 | .int a::x,.int b::y=>if a == b then uH x y else some (decide (a < b))
 | .str a::x,.str b::y=>if a=b then uH x y else some (decide (a.cps.toList < b.cps.toList))
 | _,_=>none
noncomputable def isFl:P->Bool
 | .int _=>true
 | .str _=>true
 | _=>false
noncomputable def Ju:P->P->Option Bool
 | .int a,.int b=>some (decide (a < b))
 | .tup x,.tup y=>uH x y
 | _,_=>none
noncomputable def lj:P->Bool
 | .tup (e::es)=>(e::es).all isInt
 | _=>false
noncomputable def nz:P->Bool
 | .tup (.str _::es)=>es.all isFl
 | _=>false
noncomputable def je (d:List P) (i j:Nat):Option Bool:=match d[i]?,d[j]? with
 | some x,some y=>Ju x y
 | _,_=>none
noncomputable def lK (d:List P):Option (List P):=if d.length < 2 then some d else if d.length < 64 then (Bl (je d) (kas_sort d.length)).bind fun p=>if p.size < 64 then some (p.toList.map fun i=>d.getD i .non) else none else none
noncomputable def sortable (d:List P):Bool:=(d.all isInt || d.all lj) || d.all nz
noncomputable def jo (d:List P):Option P:=if sortable d=true then (lK d).map .lst else none
noncomputable def IV (e:P) (u:Value):Prop:=∃i t,e=P.int i/\u=Value.int i t
noncomputable def FV (e:P) (u:Value):Prop:=IV e u\/∃x t,e=P.str x/\u=Value.str x t
noncomputable def KV (h:Heap) (d:P) (v:Value):Prop:=IV d v\/∃es a o n i,d=.tup es/\v=.ref a/\h.get? a=some o/\o.cls=.type "tuple"/\o.data=.seq (List.toArray i) n/\Paired FV es i
variable {l:Type}{R:d->l->Prop}
theorem fy:∀{s:List d}{a:List l}{i:Nat}{x:d},Paired R s a->s[i]? = some x->∃y,a[i]? = some y/\R x y
 | _,_,_,_,.nil,h=>by simp at h
 | _,_,0,x,.cons (b:=b) r _,h=>⟨b,rfl,by simp at h;subst h;exact r⟩
 | _,_,i+1,x,.cons _ n,h=>by obtain⟨y,e,r⟩:=fy (i:=i) n (by simpa using h);exact⟨y,by simpa using e,r⟩
theorem eK:∀{x:List d}{y:List l},Paired R x y->x.length=y.length
 | _,_,.nil=>rfl
 | _,_,.cons _ r=>by rw [bx,bx,eK r]
variable {h:Heap}
theorem sQ:∀{s:List P}{O:LV},Paired (KV h) s O->s.all isInt=true->∃x,IntsAre O x
 | _,_,.nil,_=>⟨[],.nil⟩
 | d::s,_,.cons k r,q=>by
  rw [jW,Bool.and_eq_true] at q;obtain⟨x,i⟩:=sQ r q.2;rcases k with ⟨n,t,rfl,rfl⟩ | ⟨es,a,o,n,e,rfl,_⟩
  .exact⟨n::x,.cons n t i⟩
  .exact nomatch q.1
section
variable {I:Program}{w:World}{A:Around}{E:VP}{s:Shared}
theorem BA (r:Paired (KV s.heap) ds O) (q:ds.all isInt=true) (h:je ds i L=some b) (c:a0 b s):kas_ask I w A oneType' O i L a0 s:=by
 unfold je at h;split at h
 .rename_i x y k f;obtain⟨u,m,d⟩:=fy r k;obtain⟨v,p,g⟩:=fy r f;have j:=bQ.mp q x (bA k);have l:=bQ.mp q y (bA f);rcases d with ⟨n,t,rfl,rfl⟩ | ⟨es,a,o,n,e,rfl,_⟩
  .rcases g with ⟨z,H,rfl,rfl⟩ | ⟨es,a,o,n,e,rfl,_⟩
   .cases h;unfold kas_ask;rw [ir,ir,m,p];exact PySem.W.kat_lt_int c
   .exact nomatch l
  .exact nomatch j
 .cases h
theorem qG {k:Bool}{Q:Bool->Shared->Prop}:∀{es fs:List P}{n j:LV}{i:Nat}{b:Bool},Paired FV es n->Paired FV fs j->uH es fs=some b->k=decide (n.length < j.length)->Q b s->KatLex I w A true k Q (n.zip j) i s
 | _,_,_,_,i,b,.nil,r,h,f,c=>by cases h;rw [List.zip_nil_left];refine kat_nil ?_;rw [f,<- eK r];exact c
 | _,_,_,_,i,b,.cons _ _,.nil,h,f,c=>by
  have:b=false:=by unfold uH at h;cases h;rfl
  subst this;rw [List.zip_nil_right];refine kat_nil ?_;rw [f];simpa using c
 | _,_,_,_,i,b,.cons v p,.cons m q,h,f,c=>by
  rcases v with ⟨x,t,rfl,rfl⟩ | ⟨x,t,rfl,rfl⟩
  .rcases m with ⟨y,u,rfl,rfl⟩ | ⟨y,u,rfl,rfl⟩
   .rw [List.zip_cons_cons];refine kat_cons (wpAny_eqBool_int ?_);unfold uH at h;by_cases e:(x == y)=true
    .rw [e];rw [if_pos e] at h;exact kat_yes (qG p q h (by rw [f];simp) c)
    .rw [pV] at e;rw [e];rw [e,if_neg bZ] at h;cases h;refine kat_no ?_;by_cases a:(i == 0)=true
     .rw [a];exact oneLt_int c
     .rw [pV] at a;rw [a];exact kat_one _ _ (PyProof.Rows.lt_int (show PySem.W.BoolBack Q (.bool _) s from c))
   .unfold uH at h;cases h
  .rcases m with ⟨y,u,rfl,rfl⟩ | ⟨y,u,rfl,rfl⟩
   .unfold uH at h;cases h
   .rw [List.zip_cons_cons];refine kat_cons (wpAny_eqBool_str ?_);unfold uH at h;by_cases e:x=y
    .rw [im e];rw [if_pos e] at h;exact kat_yes (qG p q h (by rw [f];simp) c)
    .rw [bB e];rw [if_neg e] at h;cases h;refine kat_no ?_;by_cases a:(i == 0)=true
     .rw [a];exact oneLt_str c
     .rw [pV] at a;rw [a];exact kat_one _ _ (PyProof.Rows.lt_str (show PySem.W.BoolBack Q (.bool _) s from c))
theorem wu {e:List P}{O:LV}{i j:Nat}{b:Bool}{C:Bool->Shared->Prop} (r:Paired (KV s.heap) e O) (q:∀d ∈ e,¬∃n,d=P.int n) (h:je e i j=some b) (c:C b s):kas_ask I w A (tuples' true) O i j C s:=by
 unfold je at h;split at h
 .rename_i x y p g;obtain⟨u,F,D⟩:=fy r p;obtain⟨v,K,E⟩:=fy r g;have J:=q x (bA p);have L:=q y (bA g);rcases D with ⟨n,t,rfl,rfl⟩ | ⟨es,a,o,n,B,rfl,rfl,S,Q,hd,M⟩
  .exact absurd ⟨_,rfl⟩ J
  .rcases E with ⟨G,T,rfl,rfl⟩ | ⟨z,N,R,G,l,rfl,rfl,f,H,k,m⟩
   .exact absurd ⟨_,rfl⟩ L
   .unfold kas_ask;rw [ir,ir,F,K];exact kat_lt S hd f k (qG M m h (by simp) c)
 .cases h
theorem sK:∀{s:List P}{O:LV},Paired (KV h) s O->s.all lj=true->∃fs,KatTups h O fs/\fs.length=s.length/\∀v ∈ fs,∃i t,v=Value.int i t
 | _,_,.nil,_=>⟨[],.nil,rfl,fun _ z=>nomatch z⟩
 | d::s,_,.cons k r,q=>by
  rw [jW,Bool.and_eq_true] at q;obtain⟨fs,f,e,b⟩:=sK r q.2;rcases k with ⟨n,t,rfl,rfl⟩ | ⟨es,a,o,n,w,rfl,rfl,p,c,hd,x⟩
  .exact nomatch q.1
  .cases x with
   | nil=>exact nomatch q.1
   | cons u x=>
    rcases u with ⟨i,t,rfl,rfl⟩ | ⟨i,t,rfl,rfl⟩;rotate_left
    .simp [lj,isInt] at q
    refine⟨.int i t::fs,.cons p c hd rfl f,by rw [bx,bx,e],fun v m=>?_⟩;rcases az.mp m with rfl | m
    .exact⟨i,t,rfl⟩
    .exact b v m
theorem sL:∀{s:List P}{O:LV},Paired (KV h) s O->s.all nz=true->∃fs,KatTups h O fs/\fs.length=s.length/\∀v ∈ fs,∃x t,v=Value.str x t
 | _,_,.nil,_=>⟨[],.nil,rfl,fun _ z=>nomatch z⟩
 | d::s,_,.cons k r,q=>by
  rw [jW,Bool.and_eq_true] at q;obtain⟨fs,f,b,c⟩:=sL r q.2;rcases k with ⟨n,t,rfl,rfl⟩ | ⟨es,a,o,n,u,rfl,rfl,w,p,hd,e⟩
  .exact nomatch q.1
  .cases e with
   | nil=>exact nomatch q.1
   | cons g e=>
    rcases g with ⟨i,t,rfl,rfl⟩ | ⟨i,t,rfl,rfl⟩
    .exact nomatch q.1
    .refine⟨.str i t::fs,.cons w p hd rfl f,by rw [bx,bx,b],fun v m=>?_⟩;rcases az.mp m with rfl | m
     .exact⟨i,t,rfl⟩
     .exact c v m
theorem BV {s:List P}{f:P->Bool} (h:∀n,f (.int n)=false) (q:s.all f=true):∀d ∈ s,¬∃n,d=P.int n:=fun d hd z=>by
 obtain⟨n,e⟩:=z;have:=bQ.mp q d hd
 rw [e,h] at this;cases this
theorem Bb {d:List P}{O:LV} (r:Paired (KV s.heap) d O) (q:sortable d=true) (m:2≤O.length) :
  wpAny (model I w) A (keyKind' O.toArray) (fun u k=>k=s/\∀i j b C,je d i j=some b->C b k->kas_ask I w A u O i j C k) (fun _ _=>False) s:=by
 unfold sortable at q;rw [i7,i7] at q;rcases q with (q | q) | q
 .obtain⟨g,p⟩:=sQ r q;have o:keyKind' O.toArray=pure oneType':=by
   rcases O with _ | ⟨x,_ | ⟨y,z⟩⟩
   .exact absurd m (by simp)
   .exact absurd m (by simp)
   .exact keyKind_ints p
  rw [o];exact wpAny_pure ⟨rfl,fun i j b C e c=>BA r q e c⟩
 .obtain⟨fs,f,h,a⟩:=sK r q;refine kat_kind (T:=.type "int") f (by rw [h,eK r];lia) (fun v n=>?_) rfl ⟨rfl,fun i j b C e c=>wu r (BV (fun _=>rfl) q) e c⟩;obtain⟨i,t,rfl⟩:=a v n;exact PySem.W.Looks.of_peek (K:=[]) (fun _ _ z=>nomatch z) rfl
 .obtain⟨fs,f,h,a⟩:=sL r q;refine kat_kind (T:=.type "str") f (by rw [h,eK r];lia) (fun v n=>?_) rfl ⟨rfl,fun i j b C e c=>wu r (BV (fun _=>rfl) q) e c⟩;obtain⟨i,t,rfl⟩:=a v n;exact PySem.W.Looks.of_peek (K:=[]) (fun _ _ z=>nomatch z) rfl
end
section
variable {X:Cx}
theorem zu:∀{es:List P}{s:List V}{j:LV},cA K F H es s->aQ s j->es.all isFl=true->Paired FV es j
 | [],_,_,h,r,_=>by cases (show _=([]:List V) from h);cases r;exact .nil
 | e::es,_,_,h,r,q=>by
  obtain⟨y,x,rfl,p,pr⟩:=h;rw [jW,Bool.and_eq_true] at q;cases r with
  | cons v1 v2=>
   cases e with
   | int i=>cases (show y=.int i from p);obtain⟨t,rfl⟩:=v1;exact .cons (.inl ⟨i,t,rfl,rfl⟩) (zu pr v2 q.2)
   | str i=>cases (show y=.str i from p);obtain⟨t,rfl⟩:=v1;exact .cons (.inr ⟨i,t,rfl,rfl⟩) (zu pr v2 q.2)
   | _=>exact nomatch q.1
theorem y6 (I:Inv X B N H s):∀{b:List P}{m:List V}{f:LV},cA X.K F H b m->aQ m f->b.all (fun d=>(isInt d || lj d) || nz d)=true->Paired (KV s.heap) b f
 | [],_,_,h,r,_=>by cases (show _=([]:List V) from h);cases r;exact .nil
 | d::b,_,_,h,r,q=>by
  obtain⟨x,D,rfl,p,g⟩:=h;rw [jW,Bool.and_eq_true] at q;cases r with
  | cons c S=>
   refine .cons ?_ (y6 I g S q.2);cases d with
   | int i=>cases (show x=.int i from p);obtain⟨t,rfl⟩:=c;exact .inl ⟨i,t,rfl,rfl⟩
   | tup es=>
    obtain⟨a,E,rfl,C,K⟩:=p;cases c;obtain⟨j,A,⟨o,w,v,n,hd⟩,_⟩:=I.tuple C.sq;refine .inr ⟨es,a,o,n,j,rfl,rfl,w,v,hd,?_⟩;have z:es.all isFl=true:=by
     have k:=q.1;cases es with
     | nil=>rfl
     | cons e es=>
      have l:∀x:P,isInt x=true->isFl x=true:=fun x h=>by cases x <;> first | rfl | cases h
      rw [i7] at k;rcases k with k | k
      .have y:(e::es).all isInt=true:=by simpa [isInt,lj] using k
       exact bQ.mpr fun x u=>l x (bQ.mp y x u)
      .cases e with
       | str x=>rw [jW,Bool.and_eq_true];exact⟨rfl,k⟩
       | _=>exact nomatch k
    exact zu K A z
   | _=>exact nomatch q.1
theorem oe (q:sortable r=true):r.all (fun d=>(isInt d || lj d) || nz d)=true:=by
 unfold sortable at q;rw [i7,i7] at q;refine bQ.mpr fun x h=>?_
 rcases q with (q | q) | q
 .rw [bQ.mp q x h];rfl
 .rw [bQ.mp q x h,Bool.or_true];rfl
 .rw [bQ.mp q x h,Bool.or_true]
theorem E6 (r:aQ u v) (i:Nat):RelV (u.getD i .non) (v.getD i Value.none):=by
 rw [ir,ir];cases e:u[i]? with
 | none=>
  have l:=eK r;have:v[i]? = none:=by rw [List.getElem?_eq_none_iff] at e ⊢;lia
  rw [this];rfl
 | some x=>obtain⟨y,h,a⟩:=fy r e;rw [h];exact a
theorem vl (r:aQ u v):∀p:List Nat,aQ (p.map fun i=>u.getD i .non) (p.map fun i=>v.getD i Value.none)
 | []=>.nil
 | i::p=>.cons (E6 r i) (vl r p)
theorem yn (r:cA K F H v u):∀p:List Nat,cA K F H (p.map fun i=>v.getD i .non) (p.map fun i=>u.getD i .non)
 | []=>rfl
 | i::p=>by
  refine⟨_,_,rfl,?_,yn r p⟩;show RP K F H (v.getD i P.non) (u.getD i V.non);rw [ir,ir];cases e:v[i]? with
  | none=>
   have l:=r.length;have:u[i]? = none:=by rw [List.getElem?_eq_none_iff] at e ⊢;lia
   rw [this];rfl
  | some d=>obtain⟨x,h,a⟩:=r.get e;rw [h];exact a
theorem lp {r:Heap}{A:Nat} (I:Inv X B N H s) (y:s.heap.Ns X.env.locals m) (a:r.Ns X.env.locals m) (k:∀b o,b≠X.env.locals->s.heap.get? b=some o->r.get? b=some o):Inv X B N H { s with heap:=r,toks:=A }:=by
 have L:∀b u,H b=some u->b≠X.env.locals:=fun b u e z=>by rw [z,I.free] at e;cases e
 refine I.step (g':=s.gens) (d':=s.drawn) (ch:=[]) (fun _ z=>nomatch z) (fun b o h _ _ e _=>k b o h e) (fun b o h _ _ e _=>⟨o.slots,k b o h e⟩) (fun _ _ _ _ n=>n) (fun b o _ e=>?_) (fun _ _ e=>e) (fun _ _ _ e=>e) (fun b G e=>⟨#[],by rw [e];simp⟩) (fun K l=>?_) (fun b u e=>?_) I.bare
 .by_cases h:b=X.env.locals
  .subst h;obtain⟨P,_,_,w,_⟩:=a;exact⟨P,w⟩
  .exact⟨o,k b o h e⟩
 .obtain⟨o,es,C,S,hd,D,t⟩:=y;obtain⟨E,i,g,f,d,F,p⟩:=l;rw [S] at f;cases f;rw [hd] at d;cases d;have:m=K:=funext fun x=>(t x).symm.trans (p x);rw [<- this];exact a
 .refine (I.hok b u e).stay (fun c v j q=>k c v ?_ q) (fun _ q=>q) fun _ _ q=>q;rcases j with z | z
  .rw [z];exact L b u e
  .exact L c _ z
theorem nw (k:∀b o,r.get? b=some o->h.get? b=some o) (F:Fr r L v m) (N:News r L v (jC r h L)):∀b o,b≠L->h.get? b=some o->v.get? b=some o:=fun b o x e=>by
 cases q:r.get? b with
 | some u=>have:=k b u q;rw [e] at this;cases this;exact F.keep b _ q
 | none=>exact (N (b,o) (sG x q e)).1
theorem Dn {P:Program}{w:World}{H:Hp}{h:Heap}{a:Addr}{o:HO} (x:ci P w H h a o):∃u,h.get? a=some u:=by
 cases o with
 | lst s=>obtain⟨_,_,_,_,e⟩:=x;exact⟨_,e⟩
 | tup s=>obtain⟨_,_,_,_,e,_⟩:=x;exact⟨_,e⟩
 | dK k=>obtain⟨_,_,_,_,_,_,_,e,_⟩:=x;exact⟨_,e⟩
 | dT k=>obtain⟨_,_,_,_,_,_,_,e,_⟩:=x;exact⟨_,e⟩
 | set S n=>obtain⟨_,_,_,_,e,_⟩:=x;exact⟨_,e⟩
 | ins C d fs=>obtain⟨_,_,_,e,_⟩:=x;exact⟨_,e⟩
 | own y=>exact x
 | xd fs=>obtain⟨_,⟨_,_,_,e,_⟩,_⟩:=x;exact⟨_,e⟩
 | rng lo i=>obtain⟨_,_,_,e⟩:=x;exact⟨_,e⟩
 | frz b u=>exact⟨_,x.1⟩
 | tbl p=>exact⟨_,(show h.get? a=some _ from x)⟩
 | met f y=>exact⟨_,(show h.get? a=some _ from x)⟩
 | ext c=>exact x.2.1
theorem zj {B:PN}{N:L2.St}{H:Hp}{s:Shared}{D:Addr} (I:Inv X B N H s) (h:s.heap.get? D=none):H D=none:=by
 cases q:H D with
 | none=>rfl
 | some v=>obtain⟨u,e⟩:=Dn (I.hok D v q);rw [h] at e;cases e
theorem xc {B:PN}{N:L2.St}{H:Hp}{s:Shared}{t:Heap}{S:Nat}{m:SV}{D:Addr}{u:HO} (I:Inv X B N H s) (y:s.heap.Ns X.env.locals m) (h:t.Ns X.env.locals m) (k:∀b o,b≠X.env.locals->s.heap.get? b=some o->t.get? b=some o) (j:s.heap.get? D=none) (i:ci X.prog X.w (cm H D u) t D u):Inv X B N (cm H D u) { s with heap:=t,toks:=S }:=by
 have f:=zj I j;have J:∀b o,s.heap.get? b=some o->b≠D:=fun b o e z=>by rw [z,j] at e;cases e
 have r:∀b v,H b=some v->b≠D:=fun b v e z=>by rw [z,f] at e;cases e
 have F:=lp (A:=S) I y h k;refine I.step (g':=s.gens) (d':=s.drawn) (ch:=[]) (fun _ z=>nomatch z) (fun b o L _ _ e _=>k b o L e) (fun b o L _ _ e _=>⟨o.slots,k b o L e⟩) (fun b o _ e n=>(aE (J b o e)).trans n) (fun b o _ e=>?_) (fun b O e=>(aE (r b _ e)).trans e) (fun b o v e=>(aE (r b _ e)).trans e) (fun b U e=>⟨#[],by rw [aE (r b _ e),e];simp⟩) (fun G A=>?_) (fun b v e=>?_) I.bare
 .by_cases L:b=X.env.locals
  .subst L;obtain⟨M,_,_,g,_⟩:=h;exact⟨M,g⟩
  .exact⟨o,k b o L e⟩
 .obtain⟨o,es,Q,C,hd,R,p⟩:=y;obtain⟨T,P,K,a,d,E,w⟩:=A;rw [C] at a;cases a;rw [hd] at d;cases d;have:m=G:=funext fun x=>(p x).symm.trans (w x);rw [<- this];exact h
 .by_cases l:b=D
  .subst l;rw [aN] at e;cases e;exact i
  .rw [aE l] at e;exact (F.hok b v e).stay (fun _ _ _ q=>q) (fun c q=>(aE (r c _ q)).trans q) fun c O q=>(aE (r c _ q)).trans q
theorem rK:dh X (.builtin "sorted") (fun xs H Q=>∃F a A K b,xs=[.ref a]/\(gY X.K H a A\/mQ X.K H a A)/\cA X.K F H K A/\sortable K=true/\lK K=some b/\∀l z,H l=none->cA X.K F H b z->Q (.ref l) (cm H l (.lst z))):=by
 intro B s N H xs us Q I r h;obtain⟨F,a,A,K,b,rfl,J,L,hs,k,q⟩:=h;obtain⟨u,rfl,rx⟩:=vals1 r;cases rx;obtain⟨m,O⟩:=I.fr;have w:∀(T:String) (hT:T="list"\/T="tuple") (t:LV) (o:Obj) (n:Nat),aQ A t->s.heap.get? a=some o->o.cls=.type T->o.data=.seq t.toArray n->wpAny (model X.prog X.w) X.A (call (.builtin "sorted") [.ref a]) (EP X B N Q) X.xe s:=by
  intro T hT t o n M G E hd;have W:=L.length;have Y:=eK M;have S:K.length < 64:=by
   unfold lK at k;split at k
   .lia
   .split at k
    .lia
    .cases k
  have C:∀(z:List V) (j:LV) (D:Addr) (f:Heap) (c:Nat),aQ z j->cA X.K F H b z->j.length≤64->s.heap.get? D=none->Fr X.base X.env.locals f m->News X.base X.env.locals f ((D,seqObj "list" j.toArray c)::jC X.base s.heap X.env.locals)->EP X B N Q (.ref D) { s with heap:=f }:=
   fun z j D f c vz rz hz P d y=>⟨.ref D,_,xc (S:=s.toks) I O.ns d.ns (nw I.bk d fun p Z=>y p (.tail _ Z)) P (show ci X.prog X.w _ f _ (.lst z) from ⟨by rw [eK vz,kR];lia,j,c,vz,(y _ (.head _)).1⟩),rfl,q _ z (zj I P) rz⟩
  refine Av O (sC (g:=X.base)) hT G E hd (by lia) (fun few D f c P d y=>?_) fun two D e f P ne d y=>?_
  .unfold lK at k;rw [if_pos (by lia)] at k;cases k;exact C A t D f c M L (by lia) P d y
  .unfold lK at k;rw [if_neg (by lia),if_pos S] at k;obtain⟨p,ep,k⟩:=Option.bind_eq_some_iff.mp k;split at k;case isFalse=>cases k
   rename_i ps;cases k;have I1:Inv X B N H { s with heap:=f }:=lp (A:=s.toks) I O.ns d.ns (nw I.bk d fun p Z=>y p (.tail _ Z));have U:Bl (je K) (kas_sort t.length)=some p:=by rw [<- Y,<- W];exact ep
   refine wpAny_mono (Bb (s:={ s with heap:=f }) (y6 I1 L M (oe hs)) hs two) (fun κ v hv=>?_) fun _ _ x=>x;obtain⟨rfl,R⟩:=hv;exact zy (a:=p) (Q:=fun p u=>PySem.W.KasFin X.base X.env.locals m D e (p.toList.map fun i=>t.getD i Value.none) (fun u=>EP X B N Q (.ref D) u) u) R (PySem.W.KasFin.intro d y (.head ne) fun h2 c F2 N2=>C _ _ D h2 c (vl M p.toList) (yn L p.toList) (by rw [bP,mW];lia) P F2 N2) _ U
 rcases J with J | J
 .obtain⟨t,r',pl,hz⟩:=I.list J;obtain⟨o,G,E,n,hd⟩:=pl.isList;exact w "list" (.inl rfl) t o n r' G E hd
 .obtain⟨t,r',⟨o,G,E,n,hd⟩,hz⟩:=I.tuple J;exact w "tuple" (.inr rfl) t o n r' G E hd
noncomputable def BL:List D->Option (List P)
 | []=>some []
 | .p v::r=>(BL r).map (v::·)
 | .ref _::_=>none
theorem xW:∀{d:List D}{O:List P},BL d=some O->d=O.map .p
 | [],O,h=>by cases h;rfl
 | .p v::r,O,h=>by
  cases e:BL r with
  | none=>simp only [BL,e] at h;cases h
  | some w=>simp only [BL,e] at h;cases h;rw [xW e];rfl
 | .ref _::_,O,h=>by cases h
theorem BN:∀{O:List P}{s:List V},dA K F H m (O.map .p) s->cA K F H O s
 | [],_,h=>h
 | _::_,_,h=>by obtain⟨x,r,e,a,n⟩:=h;exact⟨x,r,e,a,BN n⟩
noncomputable def Ay:P->Option (List P)
 | .lst x=>some x
 | .ro x=>some x
 | .tup x=>some x
 | _=>none
noncomputable def wN:D->aJ->Option (List P)
 | .p v,_=>Ay v
 | .ref i,S=>match S[i]? with
  | some (.lst d)=>BL d
  | some (.fz v)=>Ay v
  | _=>none
noncomputable def oS (r:EE):EV:=fun L S=>aL (r L S) fun d h=>match wN d h with
 | some x=>(jo x).map fun v=>(v,h)
 | none=>none
theorem vx (p:RP K F H w v) (h:Ay w=some u):∃a y,v=.ref a/\(gY K H a y\/mQ K H a y)/\cA K F H u y:=by
 cases w with
 | tup d=>obtain⟨a,y,rfl,t,r⟩:=p;cases h;exact⟨a,y,rfl,.inr t.sq,r⟩
 | lst d=>obtain⟨a,y,rfl,t,r⟩:=p;cases h;exact⟨a,y,rfl,.inl t.sq,r⟩
 | ro d=>obtain⟨a,y,rfl,t,r⟩:=p;cases h;exact⟨a,y,rfl,.inl t.sq,r⟩
 | _=>cases h
theorem Az (r:Rel K F H m S) (p:RD K F H m u v) (h:wN u S=some L):∃a y,v=.ref a/\(gY K H a y\/mQ K H a y)/\cA K F H L y:=by
 cases u with
 | p w=>exact vx p h
 | ref i=>
  obtain⟨a,rfl,x⟩:=p;simp only [wN] at h;split at h
  .rename_i d es;obtain⟨y,e,s⟩:=r.obj i a _ x es;rw [xW h] at s;exact⟨a,y,rfl,.inl (gY.of e),BN s⟩
  .rename_i w es;exact vx (r.obj i a _ x es) h
  .cases h
theorem xQ (j:Gl X "sorted") (y:X.mg "sorted"=none) (i:PE X e (tE X.K z)) (n:starEach [e] X.env=[(false,eval e X.env)]:=by rfl):PE X (.Call (.Name "sorted" p) [e] [] J) (tV X.K (oS z)):=
 (ky rK j y PyProof.Rows.boot_sorted (eY i hX (by rw [n];rfl)) (by decide) (by decide) (by rw [n];rfl) rfl).imp' fun N H Q s=>by
  obtain⟨F,m,L,S,d,I,r,l,q,k⟩:=s;obtain⟨x,t,w,q⟩:=ai q;refine⟨F,m,L,S,x,t,r,l,w,fun v c P G D f A=>?_⟩;split at q
  .rename_i b g;unfold jo at q;split at q
   .rename_i n;cases o:lK b with
    | none=>rw [o] at q;cases q
    | some u=>rw [o] at q;cases q;obtain⟨a,E,rfl,K,B⟩:=Az f A g;exact⟨c,a,E,b,u,rfl,K,B,n,o,fun h M s C=>k _ _ P _ (D.trans (cx s).stp) (f.grow (cx s)) (.newLst s C)⟩
   .cases q
  .cases q
end
noncomputable def KQ (K:FG) (e:Bool) (a:Addr):It:=if e=true then BG K a else Ie K a
inductive tIOI (K:FG) (en:Bool) (fe:EE) (σ:L2.St) (H:Hp) (R:It->Hp->Prop):Prop
 | mk (F:Aa) (m:List Addr) (L:Lc) (S:aJ) (j:Nat) (S':aJ) (ds:List D) (h0_:Rel K F H m S) (h1_:RL K F H m σ L) (h2_:fe L S=some (.ref j,S')) (h3_:S'[j]? = some (.lst ds)) (h4_:∀a F' m' H',Stp F m H F' m' H'->Rel K F' H' m' S'->m'[j]? = some a->R (KQ K en a) H'):tIOI K en fe σ H R
section
variable {X:Cx}{J:Pos}
theorem u9:dh X (.type "range") (fun x H Q=>∃j:Int,x=[.int j]/\∀r,H r=none->Q (.ref r) (cm H r (.rng 0 j))):=by intro B s N H x n Q I r h;obtain⟨j,rfl,q⟩:=h;obtain⟨u,rfl,a⟩:=vals1 r;obtain⟨t,rfl⟩:=a;refine call_range_1 ?_;exact⟨.ref s.heap.objs.size,_,I.laid (o:=.rng 0 j) (fun b o e=>Heap.get?_push_of_some _ e) (Nat.le_refl _) ⟨_,_,_,Heap.get?_push_size _ rfl⟩,rfl,q _ (I.hok.fresh (Nat.le_refl _))⟩
theorem o0:∀{s:List d}{e:List l},s.length=e.length->(∀(i:Nat) x y,s[i]? = some x->e[i]? = some y->R x y)->Paired R s e
 | [],[],_,_=>.nil
 | [],_::_,h,_=>by simp at h
 | _::_,[],h,_=>by simp at h
 | x::s,y::e,h,k=>.cons (k 0 x y rfl rfl) (o0 (by simpa using h) fun i a b n f=>k (i+1) a b (by simpa using n) (by simpa using f))
theorem uJ (h:ItemsOf (fun i v=>∃t,v=Value.int (0+i * 1) t) r n):aQ ((List.range n).map fun (i:Nat)=>V.int (i:Int)) r.toList:=by
 obtain⟨z,f⟩:=h;refine o0 (by simp [z]) fun i x y a c=>?_;rw [List.getElem?_map] at a;cases e:(List.range n)[i]? with
 | none=>rw [e] at a;cases a
 | some k=>
  rw [e] at a;cases a;have b:k=i:=by have:=List.getElem?_eq_some_iff.mp e;obtain⟨m,s⟩:=this;simpa using s.symm
  subst b;obtain⟨t,rfl⟩:=f k y (by simpa using c);exact⟨t,by simp⟩
theorem tT (a:X.calm=true):dh X (.type "list") (fun k H Q=>∃r j,k=[.ref r]/\H r=some (.rng 0 j)/\j.natAbs < 1000000/\∀l,H l=none->Q (.ref l) (cm H l (.lst ((List.range j.toNat).map fun (i:Nat)=>V.int (i:Int))))):=by
 intro B s N H k z Q I r h;obtain⟨d,j,rfl,p,y,q⟩:=h;obtain⟨u,rfl,w⟩:=vals1 r;cases w;obtain⟨t,u,v,o⟩:=I.hok d _ p;refine call_list_range (n:=j.toNat) (I.ok.hd a) o (small_one (by lia) (by lia) (by lia) (by lia)) (by rw [rangeSize_one];split <;> lia) (by lia) fun f g x c m e b=>?_
 exact⟨.ref s.heap.objs.size,_,I.laid (t':=g) m (Nat.le_refl _) (show ci X.prog X.w _ f _ (.lst _) from ⟨by rw [bP,List.length_range];exact aU (by lia:j.toNat≤1000000) (by decide),x.toList,c,uJ b,by simpa using e⟩),rfl,q _ (I.hok.fresh (Nat.le_refl _))⟩
noncomputable def Ei (a:EV):EV:=fun L S=>aL (a L S) fun v h=>match v with
 | .int j=>if decide (j.natAbs < 1000000)=true then some (.lst (intsFrom 0 j.toNat),h) else none
 | _=>none
theorem sj:∀s:List Nat,cA K F H (s.map fun (i:Nat)=>P.int (0+(i:Int))) (s.map fun (i:Nat)=>V.int (i:Int))
 | []=>rfl
 | i::s=>⟨_,_,rfl,by show V.int _=V.int _;rw [d5],sj s⟩
theorem Ae (h:X.calm=true) (K:Gl X "list") (A:X.mg "list"=none) (g:Gl X "range") (s:X.mg "range"=none) (y:PE X a (tV X.K C)) (t:starEach [a] X.env=[(false,eval a X.env)])
  : PE X (.Call (.Name "list" u) [.Call (.Name "range" p2) [a] [] c2] [] c1) (tV X.K (Ei C)):=
 (lf (tT h) K A t4 (eY (lf u9 g s boot_range (eY y hX (by rw [t];rfl)) (by decide) (by decide) (by rw [t];rfl) rfl) hX rfl) (by decide) (by decide) rfl rfl).imp' fun N H Q e=>by
  obtain⟨F,m,L,S,d,G,r,l,q,k⟩:=e;obtain⟨x,w,i,q⟩:=ai q;refine⟨F,m,L,S,x,w,r,l,i,fun v f B b E D u=>?_⟩;cases x with
  | int j=>
   dsimp only at q;split at q
   .rename_i o;have P:j.natAbs < 1000000:=of_decide_eq_true o;cases q;cases (show v=.int j from u);refine⟨j,rfl,fun p n=>⟨p,j,rfl,aN,P,fun z e=>?_⟩⟩;have c:Grow f b f (cm b p (.rng 0 j)):=cc n;exact k _ _ B _ (E.trans (c.stp.trans (cx e).stp)) ((D.grow c).grow (cx e)) (.newLst e (sj _))
   .cases q
  | _=>cases q
end
section
variable {X:Cx}{J:Pos}
theorem wG {I:Program}{w:World}{A:Around}{E:VP}{s:Shared}{t l:Addr}{i:Array Value}{v u:Value}{lo x:Option Int}{Q:VP} (h:IsTup s.heap t i) (a:s.heap.IsSliceOf l v u .none) (p:IsPart v lo) (b:IsPart u x)
  (k:HT.eC i.size 0 lo=0) (f:HT.eC i.size i.size x=i.size) (q:Q (.ref t) s):wpAny (model I w) A (getItem (.ref t) (.ref l)) Q E s:=by
 have T:s.TypeIs (.ref l) "slice":=by obtain⟨o,e,n,_⟩:=a;exact⟨o,e,n⟩
 unfold getItem;try with_reducible refine wpAny_holding ?_
 first | refine wpAny_bind (wpAny_pure ?_) | skip
 refine wpAny_bind (wpAny_sequenceKey h.typeIs (by decide) ?_);refine wpAny_bind (wpAny_callSpecial?_slot (name:=Str.ofString "__getitem__") h.typeIs jV (wpAny_call_entry jV h.typeIs entry_tuple_getitem ?_ (args_tuple_getitem _ _)));show wpAny _ _ (Builtin.Tuple.tupleItemsOf (.ref t) >>= _) _ _ s;refine wpAny_bind (tupleItemsOf_ h (wpAny_bind (kn T ?_)));rw [if_pos (by decide)];refine wpAny_bind (HT.hZ a p b ?_);rw [k,f];have y:((((0:Nat):Int) == 0 && (1:Int) == 1 && (i.size-0) == i.size)=true):=by simp
 show wpAny _ _ (if ((((0:Nat):Int) == 0 && (1:Int) == 1 && (i.size-0) == i.size)=true) then _ else _) _ _ s;rw [if_pos y];refine wpAny_bind (wpAny_bind (kn h.typeIs ?_));refine wpAny_pure ?_;rw [if_pos (by rfl)];first
  | exact wpAny_bind (wpAny_pure (wpAny_pure ⟨_,rfl,wpAny_pure q⟩))
  | exact wpAny_bind (wpAny_rule (wpAny_pure ⟨_,rfl,wpAny_pure q⟩))
  | exact wpAny_pure ⟨_,rfl,wpAny_pure q⟩
theorem yd:BF X (fun x lo n H Q=>∃a e,x=.ref a/\mQ X.K H a e/\HT.eC e.length 0 lo=0/\HT.eC e.length e.length n=e.length/\Q (.ref a) H):=by
 intro B s N H x v w g lo n d Q I m b p u h;obtain⟨a,e,rfl,c,k,f,q⟩:=h;cases m;obtain⟨i,r,t,_⟩:=I.tuple c;have l:i.toArray.size=e.length:=by rw [List.size_toArray];exact r.length.symm
 exact⟨"tuple",_,jV.lookup,t.typeIs,wG t b p u (by rw [l];exact k) (by rw [l];exact f) ⟨.ref a,H,I,rfl,q⟩⟩
theorem CK:BF X (fun x lo e H Q=>∃z,x=.str z/\z.length≤sizeLine/\Q (.str (Txt.slice z lo e)) H):=by
 intro B s N H x v F K lo e S Q I y w g p h;obtain⟨z,rfl,m,q⟩:=h;obtain⟨t,rfl⟩:=y;refine⟨"str",_,PySem.F.slot_str_getitem.lookup,typeIs_str _ _ _,?_⟩;have f:∀lo e:Option Int,Q (.str (Txt.slice z lo e)) H->∀a k,EP X B N Q (.str (Txt.slice z lo e) a) { s with toks:=k }:=fun lo e q a k=>⟨.str _,H,I.tok _,⟨a,rfl⟩,q⟩
 obtain⟨o,n,b,c⟩:=w;cases g with
 | none=>
  cases p with
  | none=>exact pR (l:=none) (u:=none) (st:=none) ⟨o,n,b,c⟩ rfl (mE ⟨aU (Txt.slice_le z _ _) m,fun a k=>f _ _ q a k⟩)
  | int j r=>exact pR (l:=none) (u:=some (j,r)) (st:=none) ⟨o,n,b,c⟩ rfl (mE ⟨aU (Txt.slice_le z _ _) m,fun a k=>f _ _ q a k⟩)
 | int i d=>
  cases p with
  | none=>exact pR (l:=some (i,d)) (u:=none) (st:=none) ⟨o,n,b,c⟩ rfl (mE ⟨aU (Txt.slice_le z _ _) m,fun a k=>f _ _ q a k⟩)
  | int j r=>exact pR (l:=some (i,d)) (u:=some (j,r)) (st:=none) ⟨o,n,b,c⟩ rfl (mE ⟨aU (Txt.slice_le z _ _) m,fun a k=>f _ _ q a k⟩)
noncomputable def zI:P->Option Int->Option Int->Option P
 | .str x,lo,h=>if gc x.length=true then some (.str (Txt.slice x lo h)) else none
 | .tup s,lo,h=>some (.tup (cut s lo h))
 | x,lo,h=>Ll x lo h
noncomputable def j5 (a:EV) (lo n:EO):EV:=fun L S=>aL (a L S) fun x h=>aL (lo L h) fun i e=>aL (n L e) fun j s=>(zI x i j).map fun v=>(v,s)
theorem Iy {e:Expr}{lo G:Option Expr}{C:EV}{E D:EO}{J p2:Pos} (W:PE X e (tV X.K C)) (Z:PO X lo (tO X.K E)) (Y:PO X G (tO X.K D)):PE X (.Subscript e (.Slice lo G none p2) J) (tV X.K (j5 C E D)):=
 (yB ((Aw.or (CJ.or yd)).or CK) W Z Y).imp' fun N H Q hz=>by
  obtain⟨F,m,L,S,d,S',r,l,q,k⟩:=hz;obtain⟨x,A,T,q⟩:=ai q;obtain⟨i,B,U,q⟩:=ai q;obtain⟨j,R,V,q⟩:=ai q;refine⟨F,m,L,S,x,A,r,l,T,fun v M m1 H1 y r1 p1=>?_⟩;refine⟨M,m1,L,A,i,B,r1,l.mono y,U,fun O m2 H2 o r2=>?_⟩;refine⟨O,m2,L,B,j,R,r2,(l.mono y).mono o,V,fun K f P I b=>?_⟩;have u:=RP.mono I (RP.mono o p1);have c:=y.trans (o.trans I);cases x with
  | lst w=>cases q;obtain⟨a,s,rfl,t,n⟩:=u;exact .inl (.inl ⟨a,s,rfl,t.sq,fun p h=>k _ _ f _ (c.trans (cx h).stp) (b.grow (cx h)) (.newLst h (n.cut i j))⟩)
  | ro w=>cases q;obtain⟨a,s,rfl,t,n⟩:=u;exact .inl (.inl ⟨a,s,rfl,t.sq,fun p h=>k _ _ f _ (c.trans (cx h).stp) (b.grow (cx h)) (.newLst h (n.cut i j))⟩)
  | tup w=>
   obtain⟨a,s,rfl,t,n⟩:=u;cases q;by_cases hw:HT.eC s.length 0 i=0/\HT.eC s.length s.length j=s.length
   .have g:cut w i j=w:=by
     unfold cut;rw [n.length,hw.1,hw.2,mF,Nat.sub_zero,<- n.length,pJ]
    rw [g] at k;exact .inl (.inr (.inr ⟨a,s,rfl,t.sq,hw.1,hw.2,k _ K f P c b ⟨a,s,rfl,t,n⟩⟩))
   .exact .inl (.inr (.inl ⟨a,s,rfl,t.sq,hw,fun p h=>k _ _ f _ (c.trans (cc h).stp) (b.grow (cc h)) (.newTup h (n.cut i j))⟩))
  | str z=>
   cases (show v=.str z from u);simp only [zI] at q;split at q
   .rename_i g;cases q;exact .inr ⟨z,rfl,gy g,k _ K f P c b rfl⟩
   .cases q
  | _=>cases q
noncomputable def bJ:List P->Option P
 | [.str x]=>if x.length≤640 then (PySem.intText? x).map .int else none
 | s=>iV s
theorem zS:dh X (.type "int") (rC X.K bJ):=by
 intro B s N H v b Q I r h;obtain⟨F,a,d,c,f,q,k⟩:=h;have o:iV a=some d->wpAny (model X.prog X.w) X.A (call (.type "int") b) (EP X B N Q) X.xe s:=fun q=>Bw B s N H v b Q I r ⟨F,a,d,c,f,q,k⟩
 unfold bJ at q;split at q
 .rename_i x;split at q
  .rename_i l;cases e:PySem.intText? x with
   | none=>rw [e] at q;cases q
   | some n=>rw [e] at q;cases q;obtain⟨y,rfl,p⟩:=sk f;cases (show y=.str x from p);obtain⟨u,rfl,m⟩:=vals1 r;obtain⟨t,rfl⟩:=m;exact PySem.W.KIN.call_text e l ⟨.int n,H,I.tok _,⟨_,rfl⟩,k _ F H .refl rfl⟩
  .cases q
 .exact o q
variable {e:Expr}{es:Ab}{fs:gj}{p:Pos}
theorem Cf (g:Gl X "int") (m:X.mg "int"=none) (a:PA X (e::es) (nZ X.K fs)) (x:starEach (e::es) X.env=(false,eval e X.env)::starEach es X.env) (h:(backTo J (starEach es X.env)).any (·.1)=false) :
  PE X (.Call (.Name "int" p) (e::es) [] J) (tV X.K (af bJ fs)):=ug zS g m PyProof.Rows.boot_int a (by decide) (by decide) x h
inductive PEs (X:Cx):Ab->List EV->Prop
 | nil:PEs X [] []
 | cons {e es f fs}:PE X e (tV X.K f)->PEs X es fs->PEs X (e::es) (f::fs)
noncomputable def vn (a b c:EV):EV:=fun L S=>aL (a L S) fun d h=>aL (b L h) fun y x=>aL (c L x) fun z e=>match d with
 | .dct s O=>match cg y with
  | some k=>some ((bR k s O).getD z,e)
  | none=>none
 | _=>none
theorem oP:∀{k:List (bI×V)}{d:List P},cA K F H d (k.map (·.2))->bR u (k.map (·.1)) d=none->fQ k u=none
 | [],d,r,h=>rfl
 | (s,v)::k,[],r,h=>by have:=r.length;simp at this
 | (s,v)::k,b::d,r,h=>by
  obtain⟨x,m,e,p,n⟩:=r;rw [List.map_cons] at e;injection e with c f;simp only [List.map_cons,bR] at h;by_cases a:s=u
  .rw [if_pos a] at h;cases h
  .rw [if_neg a] at h;rw [<- f] at n;rw [fP (p:=(s,v)) a];exact oP n h
theorem Cg (hu:X.A.units+1 < cLine) (ho:PE X o (tV X.K T)) (ha:PE X a (tV X.K C)) (hb:PE X b (tV X.K U)) (m:M2 X o "get" ap a b cp):PE X (.Call (.Attribute o "get" ap) [a,b] [] cp) (tV X.K (vn T C U)):=
 (yI hu ho ha hb m).imp' fun N H Q hz=>by
  obtain⟨F,m,L,S,d,S',r,l,q,k⟩:=hz;obtain⟨x,P,R,q⟩:=ai q;obtain⟨y,A,V,q⟩:=ai q;obtain⟨z,M,W,q⟩:=ai q;refine⟨F,m,L,S,x,P,r,l,R,fun v I m1 H1 j r1 p1=>?_⟩;cases x with
  | dct ks O=>
   obtain⟨a,s,rfl,g,B,Y,ra⟩:=id p1;refine⟨a,rfl,.inl ⟨s,.inl B⟩,?_⟩;refine⟨I,m1,L,P,y,A,r1,l.mono j,V,fun vy J m2 H2 f r2 p2=>?_⟩;refine⟨J,m2,L,A,z,M,r2,(l.mono j).mono f,W,fun vz K D t c E p3=>?_⟩;have h:t a=some (.dK s):=(f.trans c).frk _ _ g B;have e:=cA.mono c (cA.mono f ra);have py:=RP.mono c p2;dsimp only at q;split at q
   .rename_i i p;cases q;have u:=gN p py;subst u Y;have G:=j.trans (f.trans c);cases n:bR i (s.map (·.1)) O with
    | none=>have hm:=oP e n;refine⟨none,by rw [<- hm];exact iT.k h,?_⟩;rw [n] at k;exact k vz K D t G E p3
    | some w=>obtain⟨v,Z,h2⟩:=kZ e n;refine⟨some v,by rw [<- Z];exact iT.k h,?_⟩;rw [n] at k;exact k v K D t G E h2
   .cases q
  | _=>cases q
noncomputable def Hg (w:World):List DictEntry->List (Str×P)->Prop
 | [],[]=>True
 | e::es,(k,p)::r=>(∃t,e.key=.str k t)/\e.hash=hashStr w k/\(∃v,RelV v e.val/\∀K F H,RP K F H p v)/\Hg w es r
 | _,_=>False
noncomputable def JU (w:World) (K:FG) (m:SV) (x:Str) (k:List (Str×P)):Prop:=
 ∃a o es e,m x=some (.ref a)/\K.lookup a=some o/\o.ExactDict/\o.data=.dict es e/\Hg w es.toList k/\(k.map (·.1)).Nodup
end
noncomputable def Fb:List bI->List P->Option (List (Str×P))
 | [],[]=>some []
 | .inr k::s,v::O=>(Fb s O).map fun r=>(k,v)::r
 | _,_=>none
noncomputable def zi:P->Bool
 | .dct _ _=>true
 | _=>false
noncomputable def mR (w:World) (K:FG) (m:SV) (x:Str) (v:P):Prop:=(zi v=false->vd K m x v)/\∀s O,v=.dct s O->∃k,Fb s O=some k/\JU w K m x k
variable {x:Str}
theorem mR.plain (h:vd K r x v) (a:zi v=false):mR w K r x v:=⟨fun _=>h,fun k O e=>by subst e;cases a⟩
section
variable {X:Cx}
theorem pq:∀{s:List Bool}{u:LV},aQ (s.map V.bl) u->LSm.BoolsAre u s
 | [],u,r=>by obtain rfl:u=[]:=iu (by simpa using r.length.symm);exact .nil
 | b::s,u,r=>by
  cases r with
  | cons q t=>cases (show _=Value.bool b from q);exact .cons b (pq t)
theorem zO (c:X.calm=true):dh X (.builtin "any") (fun a H Q=>∃(p:Addr) (b:List Bool),a=[.ref p]/\gY X.K H p (b.map V.bl)/\Q (.bl (b.any id)) H):=by intro B s N H a d Q I r h;obtain⟨p,b,rfl,n,q⟩:=h;obtain⟨u,rfl,f⟩:=vals1 r;cases f;obtain⟨i,k,l,z⟩:=I.list n;obtain⟨m,F⟩:=I.fr;exact LSm.any_bools F (sC (g:=X.base)) (I.ok.hd c) l.isList (pq k) fun t v x e=>⟨.bl (b.any id),H,lp I F.ns x.ns (nw I.bk x e),rfl,q⟩
noncomputable def nW:List P->Option (List Bool)
 | []=>some []
 | .bl b::r=>(nW r).map (b::·)
 | _=>none
noncomputable def pk:List P->Option P
 | [.lst x]=>(nW x).map fun b=>.bl (b.any id)
 | _=>none
theorem wn:∀{a:List P}{s:List Bool}{x:List V},nW a=some s->cA K F H a x->x=s.map V.bl
 | [],s,x,h,r=>by cases h;exact iu r.length.symm
 | .bl b::a,s,x,h,r=>by simp only [nW] at h;obtain⟨n,e,rfl⟩:=jc.mp h;obtain⟨y,f,rfl,p,k⟩:=r;cases (show y=.bl b from p);rw [wn e k];rfl
theorem callAny (c:X.calm=true):dh X (.builtin "any") (rC X.K pk):=by
 intro B s N H w u Q I r h;obtain⟨F,m,d,v,f,q,k⟩:=h;unfold pk at q;split at q
 .obtain⟨b,e,rfl⟩:=jc.mp q;obtain⟨x,rfl,p⟩:=sk f;obtain⟨a,y,rfl,t,n⟩:=p;exact zO c B s N H _ u Q I r ⟨a,b,rfl,by rw [<- wn e n];exact t.sq,k _ F H .refl rfl⟩
 .cases q
variable {e:Expr}{es:Ab}{fs:gj}{p J:Pos}
theorem ET (g:Gl X "any") (m:X.mg "any"=none) (a:PA X (e::es) (nZ X.K fs)) (c:X.calm=true) (x:starEach (e::es) X.env=(false,eval e X.env)::starEach es X.env) (h:(backTo J (starEach es X.env)).any (·.1)=false) :
  PE X (.Call (.Name "any" p) (e::es) [] J) (tV X.K (af pk fs)):=xS (callAny c) g m PyProof.Rows.boot_any a (by decide) (by decide) x h
end
end Ev
namespace Ev
open PySem PySem.Spec PyProof.Rows L2
theorem sU (f:Nat->β->Sem (ForInStep β)) (I:Nat->β->Shared->Prop) (Q:β->Shared->Prop) (k:Nat)
  (turn:∀i b s,i < k->I i b s->wpAny M A (f i b) (fun r s'=>match r with | .yield b'=>I (i+1) b' s' | .done b'=>Q b' s') E s)
  (fin:∀b s,I k b s->Q b s) (b:β) (h:I 0 b s):wpAny M A (forIn [0:k] b f) Q E s:=by
 rw [Std.Legacy.Range.forIn_eq_forIn_range'];refine wpAny_forIn_list f (fun cu b s=>∃i,cu=List.range' i (k-i)/\i≤k/\I i b s) Q (fun x cu b s ⟨i,e,hi,hI⟩=>?_) (fun b s ⟨i,e,hi,hI⟩=>?_) _ b ⟨0,by simp [Std.Legacy.Range.size],Nat.zero_le _,h⟩
 .obtain⟨m,hm⟩:∃m,k-i=m+1:=by
   cases q:k-i with
   | zero=>rw [q] at e;simp at e
   | succ m=>exact⟨m,rfl⟩
  rw [hm,pZ] at e;injection e with e1 e2;subst e1;refine wpAny_mono (turn x b s (by lia) hI) (fun r s' hr=>?_) fun _ _ z=>z;cases r with
  | done b'=>exact hr
  | yield b'=>exact⟨x+1,by rw [e2];congr 1;lia,by lia,hr⟩
 .have:k-i=0:=by
   cases q:k-i with
   | zero=>rfl
   | succ m=>rw [q,pZ] at e;cases e
  have:i=k:=by lia
  subst this;exact fin b s hI
section
open PySem.SeqAt PySem.MeetsSeq
open PySem.AutoSeq1 (wpAny_loadPart')
theorem wH (l:Addr) (items:Array Value) (n:Nat) (dd:Option Addr) (sl:Array (OV)) (x:Value) (e:Value->Bool) (j:Nat) (hj:j < items.size)
  (hit:e items[j]=true) (hno:∀m (hm:m < items.size),m < j->e items[m]=false) :
  Meets (Builtin.«tuple.index» ⟨[.ref l,x],[]⟩)
   (fun A R s=>s.heap.get? l=some { cls:=.type "tuple",dict:=dd,data:=.seq items n,slots:=sl }/\(∀y,y ∈ items->EqAt A.in1 s y x (e y))/\R (.ok (.ret (.int j s.toks))) { s with toks:=s.toks+1 }):=
 .of_wp fun prog w A R s h=>by
  obtain⟨hp,g,d,tk,os⟩:=s;obtain⟨hl,he,h⟩:=h
  wp_walk using jY hl,sU _ (fun i b s'=>i≤j/\b.1=none/\s'=⟨hp,g,d,tk,os⟩) _
  case turn=>
   rintro i b s' hi ⟨hij,hb,rfl⟩;have hi':i < items.size:=by lia
   rw [ue hi'];refine wpAny_bind (he _ (Array.getElem_mem hi') prog w _ _ ?_);by_cases hc:i=j
   .subst hc;rw [hit]
    wp_walk
    exact⟨_,rfl,h⟩
   .rw [hno i hi' (by lia)]
    wp_walk
    exact⟨by lia,rfl,rfl⟩
  case fin=>rintro b s' ⟨hij,_,_⟩;exact absurd hij (by lia)
  case h=>exact⟨Nat.zero_le _,rfl,rfl⟩
end
noncomputable def j9 (ps:List P) (y:P):Option Nat:=if (ps.all (dq 19) && dq 19 y)=true then (kQ ps).findIdx? fun z=>PyData.eqv z (pd y) else none
noncomputable def n2 (v Y:EV):EV:=fun L S=>aL (v L S) fun h a=>match h with
 | .lst ps=>aL (Y L a) fun y x=>(j9 ps y).map fun (i:Nat)=>(.int (i:Int),x)
 | .tup ps=>aL (Y L a) fun y x=>(j9 ps y).map fun (i:Nat)=>(.int (i:Int),x)
 | _=>none
section
variable {X:Cx}{pins:PN}{σ:L2.St}{H:Hp}{s:Shared}{F:Aa}{ps:List P}{y:P}{vy:V}{u:Value}{i:Nat}{Q:VK}{a:Addr}
theorem qv:∀qs:List P,(kQ qs).length=qs.length
 | []=>rfl
 | q::qs=>by simp [kQ,qv qs]
theorem zn (o:X.A.units+64 < cLine) (I:Inv X pins σ H s) (d:RP X.K F H y vy) (g:RelV vy u) (e:j9 ps y=some i) {v:Array Value}{f:List Addr} (k:ReadsAll s.heap v.toList (kQ ps) f) :
  ∃t:i < v.size,PyData.eqv (SeqAt.readOf s.heap v[i]) (pd y)=true/\(∀m (x:m < v.size),m < i->PyData.eqv (SeqAt.readOf s.heap v[m]) (pd y)=false)/\v.size=ps.length /\
   ∀z,z ∈ v->SeqAt.EqAt X.A.in1 s z u (PyData.eqv (SeqAt.readOf s.heap z) (pd y)):=by
 unfold j9 at e;split at e;case isFalse=>cases e
 rename_i c;rw [Bool.and_eq_true] at c;obtain⟨j,w⟩:=h7 I 19 d g c.2;have l:=BU c.1;have q:=fL 19 _ c.2;obtain⟨t,b,r⟩:=ve.mp e;have n:=SeqAt.readsAll_map _ _ _ l.1 k;have h:v.size=(kQ ps).length:=by rw [<- n];simp
 have a:∀(m:Nat) (x:m < v.size),SeqAt.readOf s.heap v[m]=(kQ ps)[m]'(h ▸ x):=fun m x=>by
  have:(v.toList.map (SeqAt.readOf s.heap))[m]? = (kQ ps)[m]?:=by rw [n]
  rw [List.getElem?_map,Array.getElem?_toList,ue x,dI (h ▸ x)] at this;simpa using this
 refine⟨by lia,?_,fun m x p=>?_,by rw [h,qv],SeqAt.items_eqAt k w l.1 q.1 (by lia)⟩
 .rw [a];exact b
 .rw [a];simpa using r m p
theorem zm (e:j9 ps y=some i):ps.all (dq 19)=true:=by
 unfold j9 at e;split at e
 .rename_i h;rw [Bool.and_eq_true] at h;exact h.1
 .cases e
theorem u7 (P:X.A.units+64 < cLine) (I:Inv X pins σ H s) (p:RP X.K F H (.lst ps) (.ref a)) (D:RP X.K F H y vy) (G:RelV vy u) (e:j9 ps y=some i) (q:Q (.int i) H) :
  wpAny (model X.prog X.w) X.A (call (.builtin "list.index") [.ref a,u]) (EP X pins σ Q) X.xe s:=by
 have S:=zm e;obtain⟨M,b⟩:=h7 I 20 p (show RelV (.ref a) (.ref a) from rfl) (by simpa [dq] using S);rw [pd] at b;cases b with
 | @list l o J n _ c x k f w=>
  obtain⟨j,t,v,R,d⟩:=zn P I D G e w;obtain⟨V,B,C,h⟩:=o;dsimp only at k f;subst k f;have O:ps.length≤sizeLine:=by obtain⟨L,W,m,K,E⟩:=p;cases m;obtain⟨z,A,U,r,N,_⟩:=I.lstM K.2;have T:=E.length;lia
  have g:sizeLine < 2 ^ 63:=by decide
  exact call_meets PySem.F.slot_list_index ⟨_,x,rfl⟩ PySem.F.entry_list_index (PySem.F.args_list_index_2 _ _) (SeqAt.list_indexAt a J n B h u _ i j (by lia) t v) ⟨x,d,⟨.int i,H,I.tok _,⟨_,rfl⟩,q⟩⟩
theorem tR (hu:X.A.units+64 < cLine) (I:Inv X pins σ H s) (px:RP X.K F H (.tup ps) (.ref a)) (py:RP X.K F H y vy) (ru:RelV vy u) (e:j9 ps y=some i) (q:Q (.int i) H) :
  wpAny (model X.prog X.w) X.A (call (.builtin "tuple.index") [.ref a,u]) (EP X pins σ Q) X.xe s:=by
 have ho:=zm e;obtain⟨as,ra⟩:=h7 I 20 px (show RelV (.ref a) (.ref a) from rfl) (by simpa [dq] using ho);rw [pd] at ra;cases ra with
 | @tuple l o vs n _ as' h1 h2 h3 h4=>obtain⟨hi,e1,e2,hz,eq⟩:=zn hu I py ru e h4;obtain⟨oc,od,odt,osl⟩:=o;dsimp only at h2 h3;subst h2 h3;exact call_meets PySem.F.slot_tuple_index ⟨_,h1,rfl⟩ PySem.F.entry_tuple_index (PySem.F.args_tuple_index_2 _ _) (wH a vs n od osl u _ i hi e1 e2) ⟨h1,eq,⟨.int i,H,I.tok _,⟨_,rfl⟩,q⟩⟩
theorem Ci (hu:X.A.units+64 < cLine) (ho:PE X o (tV X.K T)) (he:PE X e (tV X.K fe)) (hs:starEach [e] X.env=[(false,eval e X.env)])
  (w:attributeBase o "index" X.env (eval o X.env)=eval o X.env) (j:(M.endLine == g.line)=true):PE X (.Call (.Attribute o "index" M) [e] [] g) (tV X.K (n2 T fe)):=by
 intro pins s σ H Q I ⟨F,m,L,S,d,Z,r,l,q,k⟩;obtain⟨x,U,e1,q⟩:=ai q;refine wpAny_Call_method_late w (by rw [hs];rfl) j rfl (cY (ho pins s σ H (fun v c=>∃f K,Stp F m H f K c/\Rel X.K f c K U/\RP X.K f c x v) I ⟨F,m,L,S,x,U,r,l,e1,fun v f K c W r1 B=>⟨f,K,W,r1,B⟩⟩) fun u W hz=>?_);obtain⟨v,c,Y,ru,f,K,O,r1,B⟩:=hz;have t:∀(id:String) (ps:List P),aL (fe L U) (fun y S2=>(j9 ps y).map fun (i:Nat)=>((.int (i:Int):P),S2))=some (d,Z) ->
   (∀(s:Shared) (h:Hp) (n:Aa) (y:P) (vy:V) (C:Value) (i:Nat),Inv X pins σ h s->(∀p,RP X.K f c p v->RP X.K n h p v)->RP X.K n h y vy->RelV vy C->j9 ps y=some i->Q (.int i) h->wpAny (model X.prog X.w) X.A (call (.builtin id) [u,C]) (EP X pins σ Q) X.xe s) ->
   wpAny (model X.prog X.w) X.A (callWith g (.builtin id) [u] (backTo g (starEach [e] X.env)) []) (EP X pins σ Q) X.xe W:=by
  intro id ps q hc;obtain⟨y,S2,e2,q⟩:=ai q;obtain⟨i,E,q⟩:=jc.mp q;cases q;rw [hs];refine Calls.callWith_builtin rfl (Calls.evalArgs_plain (Calls.spliced_cons (cY (he pins W σ c (fun vy h=>∃n A,Stp f K c n A h/\Rel X.K n h A Z/\RP X.K n h y vy) Y ⟨f,K,L,U,y,Z,r1,l.mono O,e2,fun v n A h s2 r2 G=>⟨n,A,s2,r2,G⟩⟩) fun C s2 ⟨vy,h,D,ruy,n,A,R,r2,G⟩=>jZ ?_)));exact hc s2 h n y vy C i D (fun p N=>RP.mono R N) G ruy E (k _ n A h (O.trans R) r2 rfl)
 cases x with
 | lst ps=>obtain⟨a,xs,rfl,hq,rp⟩:=id B;cases (show u=Value.ref a from ru);obtain⟨z,its,n',rr,hl,J⟩:=Y.lstM hq.2;exact⟨"list","list.index",uc,PySem.F.slot_list_index,PySem.F.type_list_index,⟨_,J,rfl⟩,fun b eb=>by cases eb;exact⟨_,J,rfl⟩,t _ ps q fun s h n y vy C i D N py ry E q=>u7 hu D (N _ B) py ry E q⟩
 | tup ps=>obtain⟨a,xs,rfl,hq,rp⟩:=id B;cases (show u=Value.ref a from ru);obtain⟨its,rr,o,J,⟨ec,n',ed⟩,en⟩:=Y.tupleN hq.sq;exact⟨"tuple","tuple.index",PySem.F.plainAttrs_tuple,PySem.F.slot_tuple_index,PySem.F.type_tuple_index,⟨_,J,ec⟩,fun b eb=>by cases eb;exact⟨_,J,en⟩,t _ ps q fun s h n y vy C i D N py ry E q=>tR hu D (N _ B) py ry E q⟩
 | _=>cases q
end
variable {L:Type}
noncomputable def b0 [DecidableEq L] (k:L):List L->List D->Option D
 | h::s,v::x=>if h=k then some v else b0 k s x
 | _,_=>none
noncomputable def cR [DecidableEq L] (k:L) (v:D):List L->List D->List L×List D
 | h::s,w::x=>if h=k then (h::s,v::x) else (h::(cR k v s x).1,w::(cR k v s x).2)
 | _,_=>([k],[v])
noncomputable def cw:List P->Option (List bI)
 | []=>some []
 | p::r=>(cg p).bind fun k=>(cw r).map fun s=>k::s
noncomputable def iB (d:D) (S:aJ):Option (Nat×List (List bI)×List D):=match d with
 | .ref i=>match S[i]? with
  | some (.dtt k v)=>some (i,k,v)
  | _=>none
 | _=>none
theorem mI (h:iB d S=some (i,k,n)):d=.ref i/\S[i]? = some (.dtt k n):=by
 unfold iB at h;split at h
 .split at h
  .rename_i e;cases h;exact⟨rfl,e⟩
  .cases h
 .cases h
section
variable {K:FG}{F:Aa}{H:Hp}{m:List Addr}
theorem h_:∀{ps:List P}{s:List bI}{a:List V},cw ps=some s->cA K F H ps a->a=s.map kV
 | [],s,a,h,r=>by cases h;exact r
 | p::ps,s,a,h,r=>by
  obtain⟨x,m,rfl,b,c⟩:=r;unfold cw at h;cases e:cg p with
  | none=>rw [e] at h;cases h
  | some k=>
   rw [e] at h;cases n:cw ps with
   | none=>rw [n] at h;cases h
   | some f=>rw [n] at h;cases h;rw [List.map_cons,gN e b,h_ n c]
theorem iy [DecidableEq L]:∀{C:List (L×V)}{s:List D},dA K F H m s (C.map (·.2)) ->
  match b0 k (C.map (·.1)) s with | some d=>∃v,fQ C k=some v/\RD K F H m d v | none=>fQ C k=none
 | [],s,r=>by have:s=[]:=iu r.length;subst this;rfl
 | (a,v)::C,[],r=>by have:=r.length;simp at this
 | (a,v)::C,d::s,r=>by
  obtain⟨x,c,e,p,n⟩:=r;rw [List.map_cons] at e;injection e with f b;rw [<- b] at n;simp only [List.map_cons,b0];by_cases h:a=k
  .rw [if_pos h];exact⟨v,gG (p:=(a,v)) h,by rw [show v=x from f];exact p⟩
  .rw [if_neg h,fP (p:=(a,v)) h];exact iy n
theorem la [DecidableEq L] (b:RD K F H m y u):∀{C:List (L×V)}{s:List D},(C.map (·.1)).Nodup->dA K F H m s (C.map (·.2)) ->
  (L2.putK C k u).map (·.1)=(cR k y (C.map (·.1)) s).1/\dA K F H m (cR k y (C.map (·.1)) s).2 ((L2.putK C k u).map (·.2))
 | [],s,_,r=>by have:s=[]:=iu r.length;subst this;exact⟨rfl,u,[],rfl,b,rfl⟩
 | (h,w)::C,[],_,r=>by have:=r.length;simp at this
 | (h,w)::C,d::s,g,r=>by
  obtain⟨x,E,e,B,G⟩:=r;rw [List.map_cons] at e g;injection e with i j;subst i;subst j;obtain⟨t,p⟩:=List.nodup_cons.mp g;simp only [List.map_cons,cR];by_cases a:h=k
  .subst a;rw [if_pos rfl];have same:∀l:List (L×V),h ∉ l.map (·.1)->l.map (fun v=>if v.1=h then (v.1,u) else v)=l:=by
    intro l;induction l with
    | nil=>intro _;rfl
    | cons q l A=>
     intro f;rw [List.map_cons] at f;have o:¬q.1=h:=fun z=>f (by rw [<- z];exact List.mem_cons_self)
     rw [List.map_cons,if_neg o,A fun z=>f (bg _ z)]
   have n:L2.putK ((h,w)::C) h u=(h,u)::C:=by unfold L2.putK;rw [if_pos (by simp),List.map_cons,if_pos rfl,same C t]
   rw [n];exact⟨rfl,u,_,rfl,b,G⟩
  .rw [if_neg a];obtain⟨S,P⟩:=la (k:=k) b p G;have n:L2.putK ((h,w)::C) k u=(h,w)::L2.putK C k u:=by
    unfold L2.putK;rw [gE,bB (show ¬(h,w).1=k from a),Bool.false_or];by_cases c:(C.any fun v=>decide (v.1=k))=true
    .rw [if_pos c,if_pos c,List.map_cons,if_neg (show ¬(h,w).1=k from a)]
    .rw [if_neg c,if_neg c];rfl
   rw [n,List.map_cons,List.map_cons,S];exact⟨rfl,w,_,rfl,B,P⟩
end
section
variable {X:Cx}{U G:Pos}{o c:Expr}{N:Ab}{T:EE}{fs:gj}{fv:EV}
noncomputable def qS:EE:=fun _ S=>some (.ref S.length,S++[.dtt [] []])
theorem Ck:PE X (.Dict [] [] U) (tE X.K qS):=yG.imp' fun σ H Q z=>by obtain⟨F,m,L,S,d,x,r,l,q,k⟩:=z;cases q;intro p h;refine k (.ref p) F (m++[p]) _ (gq h) (r.own h ⟨[],aN,rfl,rfl⟩) ⟨p,rfl,?_⟩;rw [<- r.len,fZ (Nat.le_refl _)];simp
noncomputable def uU (o:EE) (k:gj):EE:=fun L S=>aL (o L S) fun d x=>aL (k L x) fun ps h=>match iB d h,cw ps with
 | some (_,s,v),some B=>if few ps=true then (b0 B s v).map fun z=>(z,h) else none
 | _,_=>none
theorem Bc (m:X.A.units+1 < cLine):z5 X (fun x y H Q=>∃a v,x=.ref a/\iT H a y (some v)/\(∃C,H a=some (.dT C))/\Q v H):=by intro c l pins s σ H x y v u Q I t p h b;obtain⟨a,w,rfl,g,⟨C,f⟩,q⟩:=h;cases t;obtain⟨_,_,_,_,o,_,_,e,k,_⟩:=I.hok a _ f;exact tail_any ⟨o,e,k.1⟩ slot_dict_getitem.lookup (pe m I g p fun i d n r=>⟨w,H,n,r,q⟩) b
theorem IE {J} (hu:X.A.units+1 < cLine) (ho:PE X o (tE X.K T)) (hk:PA X N (nZ X.K fs)) (hs:kN (.Tuple N J G)):PE X (.Subscript o (.Tuple N J G) U) (tE X.K (uU T fs)):=
 (yE (Bc hu) ho (qt hk) hs).imp' fun σ H Q hz=>by
  obtain⟨F,m,L,S,d,S',r,l,q,k⟩:=hz;obtain⟨x,y,V,q⟩:=ai q;obtain⟨ps,K,W,q⟩:=ai q;refine⟨F,m,L,S,x,y,r,l,V,fun v O m1 H1 E r1 p1=>?_⟩;refine⟨O,m1,L,y,ps,K,r1,l.mono E,W,fun M i m2 R I D G=>?_⟩;cases s:iB x K with
  | none=>rw [s] at q;cases q
  | some t=>
   obtain⟨j,ks,vs⟩:=t;rw [s] at q;cases h:cw ps with
   | none=>rw [h] at q;cases q
   | some B=>
    rw [h] at q;dsimp only at q;split at q
    .rename_i hf;obtain⟨z,Y,q⟩:=jc.mp q;cases q;obtain⟨rfl,n⟩:=mI s;obtain⟨a,rfl,hm⟩:=RD.mono I p1;obtain⟨C,f,p,rs⟩:=D.obj j a _ hm n;subst p;have P:=iy (k:=B) rs;rw [Y] at P;obtain⟨w,Z,u⟩:=P;refine⟨by rw [<- G.length];exact ka hf,fun b A=>?_⟩;have c:a≠b:=fun z=>by rw [z,A] at f;cases f
     have e:cm R b (.tup M) a=some (.dT C):=by rw [aE c];exact f
     have g:=cc (F:=i) (o:=.tup M) A;rw [h_ h G] at e g ⊢;refine⟨a,w,rfl,by rw [<- Z];exact iT.t e aN,⟨C,e⟩,?_⟩;exact k w i m2 _ (E.trans (I.trans g.stp)) (D.grow g) (RD.mono g.stp u)
    .cases q
noncomputable def s_ (o:EE) (k:gj):EE:=fun L S=>aL (o L S) fun d h=>match iB d h with
 | none=>none
 | some _=>aL (k L h) fun ps x=>match iB d x,cw ps with
  | some (_,s,v),some B=>if few ps=true then some ((b0 B s v).getD (.p .non),x) else none
  | _,_=>none
theorem EZ {J} (hu:X.A.units+1 < cLine) (ho:PE X o (tE X.K T)) (hk:PA X N (nZ X.K fs)) (E:M1 X o "get" ap (.Tuple N J G) cp) :
  PE X (.Call (.Attribute o "get" ap) [.Tuple N J G] [] cp) (tE X.K (s_ T fs)):=
 (yJ hu ho (qt hk) E).imp' fun σ H Q hz=>by
  obtain⟨F,m,L,S,d,S',r,l,q,k⟩:=hz;obtain⟨x,c,e1,q⟩:=ai q;refine⟨F,m,L,S,x,c,r,l,e1,fun v F1 m1 H1 R r1 p1=>?_⟩;cases e:iB x c with
  | none=>rw [e] at q;cases q
  | some t1=>
   obtain⟨j,ks1,vs1⟩:=t1;rw [e] at q;dsimp only at q;obtain⟨ps,V,e2,q⟩:=ai q;obtain⟨rfl,i⟩:=mI e;obtain⟨a,rfl,hm⟩:=id p1;obtain⟨s,P,_,_⟩:=r1.obj j a _ hm i;refine⟨a,rfl,.inr ⟨s,.inl P⟩,?_⟩;refine⟨F1,m1,L,c,ps,V,r1,l.mono R,e2,fun us f Z H2 U M G=>?_⟩;cases u:iB (.ref j) V with
   | none=>rw [u] at q;cases q
   | some t=>
    obtain⟨j2,ks,vs⟩:=t;rw [u] at q;cases p:cw ps with
    | none=>rw [p] at q;cases q
    | some B=>
     rw [p] at q;dsimp only at q;split at q
     .rename_i hf;cases q;obtain⟨h,y⟩:=mI u;cases h;obtain⟨a',e4,I⟩:=RD.mono U p1;cases e4;obtain⟨C,K,D,rs⟩:=M.obj j a _ I y;subst D;have n:=iy (k:=B) rs;refine⟨by rw [<- G.length];exact ka hf,fun b Y=>?_⟩;have A:a≠b:=fun z=>by rw [z,Y] at K;cases K
      have h:cm H2 b (.tup us) a=some (.dT C):=by rw [aE A];exact K
      have g:=cc (F:=f) (o:=.tup us) Y;rw [h_ p G] at h g ⊢;refine⟨fQ C B,iT.t h aN,?_⟩;cases W:b0 B (C.map (·.1)) vs with
      | none=>rw [W] at n k;rw [show fQ C B=none from n];exact k .non f Z _ (R.trans (U.trans g.stp)) (M.grow g) rfl
      | some z=>rw [W] at n k;obtain⟨w,ev,O⟩:=n;rw [ev];exact k w f Z _ (R.trans (U.trans g.stp)) (M.grow g) (RD.mono g.stp O)
     .cases q
noncomputable def vA (o:EE) (k:gj) (v:EV):ES:=fun L S=>aL (v L S) fun y a=>aL (o L a) fun d e=>aL (k L e) fun ps h=>match iB d h,cw ps with
 | some (i,s,x),some B=>if (s.Nodup/\few s=true/\few ps=true) then some (.nx,L,h.set i (.dtt (cR B (.p y) s x).1 (cR B (.p y) s x).2)) else none
 | _,_=>none
theorem EG {J} (hu:X.A.units+1 < cLine) (ho:PE X o (tE X.K T)) (g:PA X N (nZ X.K fs)) (hv:PE X c (tV X.K fv)) (hs:swapsWith c (some (.Subscript o (.Tuple N J G) h)) U.line X.env=pure false) :
  PS X (.Assign [.Subscript o (.Tuple N J G) h] c U) (kP X.K (vA T fs fv)):=(vH hu ho (qt g) hv hs).imp' fun D σ H hz=>by
 obtain⟨F,m,L,S,fl,L',S',r,l,q,k⟩:=hz;obtain⟨y,E,e1,q⟩:=ai q;obtain⟨d,I,e2,q⟩:=ai q;obtain⟨ps,M,e3,q⟩:=ai q;refine⟨F,m,L,S,y,E,r,l,e1,fun v P V H1 s r1 p1=>?_⟩;refine⟨P,V,L,E,d,I,r1,l.mono s,e2,fun x F2 m2 H2 e r2 G=>?_⟩;refine⟨F2,m2,L,I,ps,M,r2,(l.mono s).mono e,e3,fun us A W H3 n r3 Z=>?_⟩;cases w:iB d M with
 | none=>rw [w] at q;cases q
 | some t=>
  obtain⟨j,ks,vs⟩:=t;rw [w] at q;cases p:cw ps with
  | none=>rw [p] at q;cases q
  | some B=>
   rw [p] at q;dsimp only at q;split at q
   .rename_i u;cases q;obtain⟨rfl,N⟩:=mI w;refine⟨by rw [<- Z.length];exact ka u.2.2,fun b hb=>?_⟩;have O:=cc (F:=A) (o:=.tup us) hb;have K:=r3.grow O;have f:=O.stp (m:=W);obtain⟨a,rfl,i⟩:=RD.mono f (RD.mono n G);obtain⟨C,R,g,rs⟩:=K.obj j a _ i N;subst g;have pv:=RD.mono f (RD.mono n (RD.mono e (show RD X.K P H1 V (.p y) v from p1)));obtain⟨h1,h2⟩:=la (k:=B) pv u.1 rs;have Y:∀zs,cm H3 b (.tup us) a≠some (.tup zs):=fun zs z=>by rw [R] at z;cases z
    have st:=fK (o:=.dT (L2.putK C B v)) K i N trivial Y;have hl:C.length < sizeLine:=by have Q:(C.map (·.1)).length≤1000000:=of_decide_eq_true u.2.1;rw [bP] at Q;exact kU Q (by decide)
    refine⟨a,_,rfl,tZ.t (k:=B) R ?_ hl,?_⟩
    .rw [h_ p Z];exact aN
    .exact k σ A W _ (s.trans (e.trans (n.trans (f.trans st)))) (K.set i N trivial Y ⟨_,aN,h1,dA.mono st h2⟩) ((((l.mono s).mono e).mono n).mono (f.trans st))
   .cases q
end
section
variable {X:Cx}{pins:PN}{σ:L2.St}{H:Hp}{s:Shared}{a:Addr}{C:List (bI×V)}{B:bI}{u r:Value}{x:V}{A:Around}{E:VP}
theorem zG (I:Inv X pins σ H s) (e:H a=some (.dK C)) (K:C.length < sizeLine) (S:RelV (kV B) u) (o:RelV x r)
  (t:∀v w n,fQ C B=some v->RelV v w->Inv X pins σ H n->Q w n) (p:fQ C B=none->∀n,Inv X pins σ (cm H a (.dK (L2.putK C B x))) n->Q r n) :
  wpAny (model X.prog X.w) A (call (.builtin "dict.setdefault") [.ref a,u,r]) Q E s:=by
 obtain⟨z,hd,F,l,k⟩:=wc I.hok e;have h:=l.val B;refine km PySem.F.slot_dict_setdefault k.typeIs PySem.F.entry_dict_setdefault (PySem.F.args_dict_setdefault_3 _ _ _) (kt_meets_setdefault (bU X.prog X.w) a (lO S) hd r)
  ⟨F,k,by rw [<- l.length];exact z,fun v f=>?_,fun c m d j=>?_⟩
 .cases q:fQ C B with
  | none=>rw [q,f] at h;cases h
  | some b=>rw [q,f] at h;exact t b v _ q h (I.tok _)
 .have q:fQ C B=none:=by
   cases q:fQ C B with
   | none=>rfl
   | some b=>rw [q,c] at h;cases h
  refine p q _ ?_;have g:∃q,m.get? a=some q:=let ⟨q,_,_,i,_⟩:=d;⟨q,i⟩
  have y:(L2.putK C B x).length≤sizeLine:=by have:=jg C B x;lia
  exact qX I (by rw [e];exact True.intro) j g (zD y hd (l.put B o) d)
end
section
variable {X:Cx}{o e f:Expr}{ap cp:Pos}{T fd:EE}{fk:EV}
noncomputable def mO (o:EE) (k:EV) (d:EE):EE:=fun L S=>aL (o L S) fun x a=>match jD x a with
 | none=>none
 | some _=>aL (k L a) fun z e=>aL (d L e) fun y h=>match jD x h,cg z with
  | some (i,s,v),some B=>if (s.Nodup/\few s=true) then match b0 B s v with
    | some w=>some (w,h)
    | none=>some (y,h.set i (.dct (cR B y s v).1 (cR B y s v).2))
   else none
  | _,_=>none
theorem Ag (ho:PE X o (tE X.K T)) (he:PE X e (tV X.K fk)) (hf:PE X f (tE X.K fd)) (n:M2 X o "setdefault" ap e f cp):PE X (.Call (.Attribute o "setdefault" ap) [e,f] [] cp) (tE X.K (mO T fk fd)):=by
 intro pins s σ H Q I ⟨F,m,L,S,d,S',r,l,q,k⟩;obtain⟨x,S1,e1,q⟩:=ai q;refine wpAny_Call_method n.base n.few n.line ub PySem.F.slot_dict_setdefault PySem.F.type_dict_setdefault
  (cY (ho pins s σ H (fun v P=>∃b i,Stp F m H b i P/\Rel X.K b P i S1/\RD X.K b P i x v) I ⟨F,m,L,S,x,S1,r,l,e1,fun v b i P s1 r1 p1=>⟨b,i,s1,r1,p1⟩⟩) fun u s1 ⟨v,P,I1,ru,b,i,N,r1,p1⟩=>?_)
 cases D:jD x S1 with
 | none=>rw [D] at q;cases q
 | some t1=>
  obtain⟨j,ks1,vs1⟩:=t1;rw [D] at q;dsimp only at q;obtain⟨z,S2,e2,q⟩:=ai q;obtain⟨y,S3,e3,q⟩:=ai q;obtain⟨rfl,es1⟩:=qx D;obtain⟨a,rfl,hm⟩:=id p1;obtain⟨Y,hH1,_,_⟩:=r1.obj j a _ hm es1;cases (show u=Value.ref a from ru);obtain⟨t1,t2,_⟩:=uM I1 (.inl ⟨Y,.inl hH1⟩);refine⟨t1,t2,?_⟩;rw [n.trees];refine Calls.callWith_builtin rfl (Calls.evalArgs_plain (Calls.spliced_cons (cY (he pins s1 σ P (fun vz A=>∃c M,Stp b i P c M A/\Rel X.K c A M S2/\RP X.K c A z vz) I1 ⟨b,i,L,S1,z,S2,r1,l.mono N,e2,fun v c M A s2 r2 G=>⟨c,M,s2,r2,G⟩⟩) fun uz s2 ⟨vz,A,I2,rz,c,M,O,r2,G⟩=>
   Calls.spliced_cons (cY (hf pins s2 σ A (fun vy g=>∃p K,Stp c M A p K g/\Rel X.K p g K S3/\RD X.K p g K y vy) I2 ⟨c,M,L,S2,y,S3,r2,(l.mono N).mono O,e3,fun v p K g s3 U p3=>⟨p,K,s3,U,p3⟩⟩) fun uy s3 ⟨vy,g,I3,ry,p,K,sh,U,p3⟩=>jZ ?_))))
  cases eo:jD (.ref j) S3 with
  | none=>rw [eo] at q;cases q
  | some t=>
   obtain⟨j2,ks,vs⟩:=t;rw [eo] at q;cases ek:cg z with
   | none=>rw [ek] at q;cases q
   | some B=>
    rw [ek] at q;dsimp only at q;split at q
    .rename_i hc;obtain⟨e4,E⟩:=qx eo;cases e4;obtain⟨a',e5,J⟩:=RD.mono (O.trans sh) p1;cases e5;obtain⟨C,hH,hk,rs⟩:=U.obj j a _ J E;subst hk;have R:=iy (k:=B) rs;have pz:=RP.mono sh G;have ez:=gN ek pz;subst ez;have hl:C.length < sizeLine:=by
      have h9:(C.map (·.1)).length≤1000000:=of_decide_eq_true hc.2;rw [bP] at h9;exact kU h9 (by decide)
     have Z:=N.trans (O.trans sh);refine zG I3 hH hl rz ry (fun v w s' W rv I'=>?_) fun W s' I'=>?_
     .cases V:b0 B (C.map (·.1)) vs with
      | none=>rw [V] at R;rw [show fQ C B=none from R] at W;cases W
      | some w'=>rw [V] at R q;dsimp only at q;cases q;obtain⟨v',h,rd⟩:=R;rw [W] at h;cases h;exact⟨v,g,I',rv,k v p K g Z U rd⟩
     .cases V:b0 B (C.map (·.1)) vs with
      | some w'=>rw [V] at R;obtain⟨v',h,_⟩:=R;rw [W] at h;cases h
      | none=>
       rw [V] at q;dsimp only at q;cases q;obtain⟨h1,h2⟩:=la (k:=B) p3 hc.1 rs;have nt:∀zs,g a≠some (.tup zs):=fun zs z=>by rw [hH] at z;cases z
       have st:=fK (o:=.dK (L2.putK C B vy)) U J E trivial nt;exact⟨vy,_,I',ry,k vy p K _ (Z.trans st) (U.set J E trivial nt ⟨_,aN,h1,dA.mono st h2⟩) (RD.mono st p3)⟩
    .cases q
end
end Ev
namespace PySem
open PySem PyProof.Rows
section
variable {prog:Program}{w:World}{A:Around}{E:VP}{s:Shared}
theorem se (t:s.heap.IsTupleIter k h i) (f:s.heap.IsTuple h n) (b:n[i]? = some x)
  (e:∀a,a.IsTupleIter k h (i+1)->Heap.SameBut k s.heap a->Q x { s with heap:=a }):wpAny (model prog w) A (Builtin.SmallTypes.nextOf (.ref k)) Q E s:=by
 have T:=t.typeIs;obtain⟨⟨q,v,m,r⟩,o,c,hd⟩:=id t;obtain⟨u,l,_,p,d⟩:=f;dsimp only at c hd;subst c hd;unfold Builtin.SmallTypes.nextOf;apply wpAny_bind;apply wpAny_callSpecial?_slot (name:=Str.ofString "__next__") T F.slot_tuple_iterator_next;refine wpAny_call_entry F.slot_tuple_iterator_next T F.entry_tuple_iterator_next ?_ (F.args_tuple_iterator_next_1 _);repeat first | with_reducible refine wpAny_bind (wpAny_field o rfl (x:=.ref h) rfl ?_) | wp_step
 rw [d];apply wpAny_pure;simp only [Int.toNat_natCast,b];apply wpAny_bind;apply wpAny_setField o rfl (by simp);refine wpAny_pure ⟨x,rfl,wpAny_pure (e _ ⟨_,p6 _ o rfl,rfl,?_⟩ (pM ..))⟩;simp [Obj.mapFields,rawInt]
noncomputable def fU (h:Heap) (z TI TO:Addr) (f x:Value):Prop:=h.get? z=some { cls:=.type "zip",data:=.fields #[f,x,.bool false,.ref TI,.ref TO] }
noncomputable def eN (h:Heap) (T:Addr) (a b:Value):Prop:=h.get? T=some { cls:=.type "tuple",data:=.seq #[a,b] }
theorem xL (l y:Addr) (X Y:Array Value):Meets (Builtin.«zip.__new__» ⟨[.type "zip",.ref l,.ref y],[]⟩) (fun _ R s=>s.heap.IsList l X/\s.heap.IsTuple y Y /\
  ∀v S F TI TO z,(∀b o,s.heap.get? b=some o->v.get? b=some o)->s.heap.objs.size≤S->S < F->F < TI->TI < TO->TO < z->v.IsListIter S l 0->v.IsTupleIter F y 0->eN v TI (.ref S) (.ref F)->eN v TO .none .none ->
   fU v z TI TO .none (.bool false)->R (.ok (.ret (.ref z))) { s with heap:=v }):=
 .of_wp fun prog w A R s h=>by
  obtain⟨i,g,d,V,os⟩:=s;obtain⟨B,C,h⟩:=h;have U:=sub_zip;have L:Heap.IsList (Shared.heap ⟨i,g,d,V,os⟩) l X:=B;have P:Heap.IsTuple (Shared.heap ⟨i.push { cls:=.type "list_iterator",data:=.fields #[.ref l,.int 0 0] },g,d,V,os⟩) y Y:=C.push _
  wp_walk using wpAny_pyIter_list L,wpAny_pyIter_tuple P
  have j:∀(u n x a f c:Heap) (r t p q m:Obj),n=u.push r->x=n.push t->a=x.push p->f=a.push q->c=f.push m->r.isFreed=false->t.isFreed=false->p.isFreed=false->q.isFreed=false->m.isFreed=false ->
    (∀b o,u.get? b=some o->c.get? b=some o)/\u.objs.size < n.objs.size/\n.objs.size < x.objs.size/\x.objs.size < a.objs.size/\a.objs.size < f.objs.size /\
    c.get? u.objs.size=some r/\c.get? n.objs.size=some t/\c.get? x.objs.size=some p/\c.get? a.objs.size=some q/\c.get? f.objs.size=some m:=by
   intro u n x a f c r t p q m E G I J M f1 f2 f3 f4 f5;have N:n.get? u.objs.size=some r:=by rw [E];exact Heap.get?_push_size _ f1
   have O:x.get? n.objs.size=some t:=by rw [G];exact Heap.get?_push_size _ f2
   have Q:a.get? x.objs.size=some p:=by rw [I];exact Heap.get?_push_size _ f3
   have T:f.get? a.objs.size=some q:=by rw [J];exact Heap.get?_push_size _ f4
   have g5:c.get? f.objs.size=some m:=by rw [M];exact Heap.get?_push_size _ f5
   have W:∀b o,n.get? b=some o->x.get? b=some o:=fun b o e=>by rw [G];exact Heap.get?_push_of_some _ e
   have D:∀b o,x.get? b=some o->a.get? b=some o:=fun b o e=>by rw [I];exact Heap.get?_push_of_some _ e
   have K:∀b o,a.get? b=some o->f.get? b=some o:=fun b o e=>by rw [J];exact Heap.get?_push_of_some _ e
   have H:∀b o,f.get? b=some o->c.get? b=some o:=fun b o e=>by rw [M];exact Heap.get?_push_of_some _ e
   exact⟨fun b o e=>H _ _ (K _ _ (D _ _ (W _ _ (by rw [E];exact Heap.get?_push_of_some _ e)))),Heap.lt_size N,Heap.lt_size O,Heap.lt_size Q,Heap.lt_size T,H _ _ (K _ _ (D _ _ (W _ _ N))),H _ _ (K _ _ (D _ _ O)),H _ _ (K _ _ Q),H _ _ T,g5⟩
  let r:Obj:={ cls:=.type "list_iterator",data:=.fields #[.ref l,.int 0 0] }
  let n:=i.push r
  let t:Obj:={ cls:=.type "tuple_iterator",data:=.fields #[.ref y,.int 0 0] }
  let x:=n.push t
  let p:Obj:={ cls:=.type "tuple",data:=.seq #[.ref i.objs.size,.ref n.objs.size] }
  let a:=x.push p
  let q:Obj:={ cls:=.type "tuple",data:=.seq #[.none,.none] }
  let f:=a.push q
  let m:Obj:={ cls:=.type "zip",data:=.fields #[.none,.bool false,.bool false,.ref x.objs.size,.ref a.objs.size] }
  obtain⟨k,s1,s2,s3,s4,Z,a2,a3,a4,a5⟩:=j i n x a f (f.push m) r t p q m rfl rfl rfl rfl rfl rfl rfl rfl rfl rfl;exact⟨_,rfl,h (f.push m) i.objs.size n.objs.size x.objs.size a.objs.size f.objs.size k (Nat.le_refl _) s1 s2 s3 s4 ⟨_,Z,rfl,rfl⟩ ⟨_,a2,rfl,rfl⟩ a3 a4 a5⟩
end
section
variable {prog:Program}{w:World}{A:Around}{E:VP}{s:Shared}
theorem xD (h:Q (s.heap.get? a) s):wpAny M A (loadIfAlive a) Q E s:=fun x p _=>by unfold loadIfAlive;rw [Sem.wp_loadIfAlive];exact (Sem.wp_pure ..).mpr h
theorem nE {z TI TO T:Addr}{f:Bool}{o:Obj}{Q:Bool->Shared->Prop} (a:fU s.heap z TI TO (rawInt T) (.bool f)) (n:s.heap.get? T=some o)
  (h:∀e,fU e z TI TO (rawInt T) (.bool true)->Heap.SameBut z s.heap e->Q false { s with heap:=e }):wpAny (model prog w) A (Builtin.SmallTypes.ownedTupleIsFree (.ref z)) Q E s:=by
 unfold Builtin.SmallTypes.ownedTupleIsFree;apply wpAny_bind;refine wpAny_field (show s.heap.get? z=some _ from a) rfl (x:=rawInt T) rfl ?_;unfold rawInt;dsimp only;apply wpAny_bind;refine xD ?_;rw [Int.toNat_natCast,n];rw [if_neg (by simp)];apply wpAny_bind;refine wpAny_field (show s.heap.get? z=some _ from a) rfl (x:=.bool f) rfl ?_;cases f with
 | true=>rw [if_neg (by decide)];exact wpAny_pure (h s.heap a ⟨rfl,fun _ _=>rfl⟩)
 | false=>rw [if_pos (by decide)];apply wpAny_bind;refine wpAny_setField (show s.heap.get? z=some _ from a) rfl (by simp) (wpAny_pure (h _ ?_ (pM ..)));unfold fU;rw [p6 _ (show s.heap.get? z=some _ from a) rfl];simp [Obj.mapFields]
theorem wx {z TI TO i h l m T:Addr}{K:Bool}{k:Nat}{H S:Array Value}{x y:Value}{X:Obj}{Q:VP} (q:fU s.heap z TI TO (rawInt T) (.bool K)) (I:eN s.heap TI (.ref i) (.ref h)) (D:s.heap.get? T=some X)
  (P:s.heap.IsListIter i l k) (B:s.heap.IsTupleIter h m k) (t:s.heap.IsList l H) (p:s.heap.IsTuple m S) (L:H[k]? = some x) (M:S[k]? = some y)
  (u:i≠z) (g:h≠z) (U:l≠z) (V:m≠z) (j:h≠i) (W:m≠i) (n7:l≠h) (n8:l≠i) (n9:m≠h)
  (C:∀f:Heap,fU f z TI TO (rawInt T) (.bool true)->f.IsListIter i l (k+1)->f.IsTupleIter h m (k+1)->(∀c o,c≠z->c≠i->c≠h->s.heap.get? c=some o->f.get? c=some o) ->
   Q (.ref f.objs.size) { s with heap:=f.push { cls:=.type "tuple",data:=.seq #[x,y] } }) :
  wpAny (model prog w) A (Builtin.«zip.__next__» ⟨[.ref z],[]⟩) (fun r Y=>∃v,r=.done (.ret v)/\Q v Y) E s:=by
 unfold Builtin.«zip.__next__»;apply wpAny_bind;apply wpAny_pure;apply wpAny_bind;refine wpAny_field (show s.heap.get? z=some _ from q) rfl (x:=.bool false) rfl ?_;apply wpAny_bind;refine wpAny_field (show s.heap.get? z=some _ from q) rfl (x:=.ref TI) rfl ?_;apply wpAny_bind;refine wpAny_seqItems (show s.heap.get? TI=some _ from I) rfl ?_;dsimp only;rw [if_neg (by simp)];apply wpAny_bind;refine nE q D fun Z d b=>?_
 rw [if_neg (by simp)];apply wpAny_bind;rw [<- Array.forIn_toList];show wpAny _ _ (forIn [Value.ref i,Value.ref h] _ _) _ _ _;rw [List.forIn_cons];apply wpAny_bind;apply wpAny_bind;apply wpAny_holding;show wpAny _ _ (Builtin.SmallTypes.nextOf (.ref i) >>= _) _ _ _;apply wpAny_bind;refine wpAny_nextOf_list_item (P.extBut b.extBut u) (t.extBut b.extBut U) L fun ha N a=>wpAny_pure ?_;dsimp only;apply wpAny_pure;dsimp only;rw [List.forIn_cons];apply wpAny_bind;apply wpAny_bind;apply wpAny_holding;show wpAny _ _ (Builtin.SmallTypes.nextOf (.ref h) >>= _) _ _ _;apply wpAny_bind;refine se ((B.extBut b.extBut g).extBut a.extBut j) ((p.extBut b.extBut V).extBut a.extBut W) M fun G R n=>wpAny_pure ?_;dsimp only;apply wpAny_pure;dsimp only;rw [List.forIn_nil];apply wpAny_pure;dsimp only;apply wpAny_bind;refine wpAny_newTuple (hsz:=by show 2≤sizeLine;decide) (wpAny_pure ⟨_,rfl,C G ?_ ?_ R ?_⟩)
 .exact n.extBut _ _ (Ne.symm g) (a.extBut _ _ (Ne.symm u) d)
 .exact N.extBut n.extBut (Ne.symm j)
 .exact fun c o J O F e=>n.extBut _ _ F (a.extBut _ _ O (b.extBut _ _ J e))
theorem xM {z TI TO i f n T:Addr}{t:Bool}{k:Nat}{m:Array Value}{H:Obj}{Q:Fin->Shared->Prop} (d:A.handled=none) (a:fU s.heap z TI TO (rawInt T) (.bool t)) (I:eN s.heap TI (.ref i) (.ref f)) (v:s.heap.get? T=some H)
  (p:s.heap.IsListIter i n k) (l:s.heap.IsList n m) (u:m[k]? = none) (j:i≠z) (y:n≠z)
  (q:∀h e,(∀c o,c≠z->c≠i->s.heap.get? c=some o->h.get? c=some o)->(∃o,h.get? e=some o/\o.cls=.type "StopIteration")->E (.ref e) { s with heap:=h }) :
  wpAny (model prog w) A (Builtin.«zip.__next__» ⟨[.ref z],[]⟩) Q E s:=by
 unfold Builtin.«zip.__next__»;apply wpAny_bind;apply wpAny_pure;apply wpAny_bind;refine wpAny_field (show s.heap.get? z=some _ from a) rfl (x:=.bool false) rfl ?_;apply wpAny_bind;refine wpAny_field (show s.heap.get? z=some _ from a) rfl (x:=.ref TI) rfl ?_;apply wpAny_bind;refine wpAny_seqItems (show s.heap.get? TI=some _ from I) rfl ?_;dsimp only;rw [if_neg (by simp)];apply wpAny_bind;refine nE a v fun S g b=>?_
 rw [if_neg (by simp)];apply wpAny_bind;rw [<- Array.forIn_toList];show wpAny _ _ (forIn [Value.ref i,Value.ref f] _ _) _ _ _;rw [List.forIn_cons];apply wpAny_bind;apply wpAny_bind;apply wpAny_holding;show wpAny _ _ (Builtin.SmallTypes.nextOf (.ref i) >>= _) _ _ _;apply wpAny_bind;exact wpAny_nextOf_list_end d (p.extBut b.extBut j) (l.extBut b.extBut y) u fun h e x o=>q h e (fun c F J O r=>x _ _ O (b.extBut _ _ J r)) o
end
section
variable {prog:Program}{w:World}{A:Around}{E:VP}{s:Shared}
theorem wy {z TI TO i m K l:Addr}{xs ys:Array Value}{x y:Value}{Q:VP} (d:fU s.heap z TI TO .none (.bool false)) (I:eN s.heap TI (.ref i) (.ref m)) (B:eN s.heap TO .none .none)
  (h1:s.heap.IsListIter i K 0) (h2:s.heap.IsTupleIter m l 0) (C:s.heap.IsList K xs) (D:s.heap.IsTuple l ys) (hx:xs[0]? = some x) (hy:ys[0]? = some y)
  (R:i≠z) (V:m≠z) (n3:K≠z) (n4:l≠z) (n5:m≠i) (n6:l≠i) (W:TO≠z) (X:TO≠i) (Y:TO≠m) (U:l≠TO)
  (hQ:∀(q:Heap) (T:Addr),fU q z TI TO (rawInt T) (.bool false)->q.IsListIter i K 1->q.IsTupleIter m l 1->eN q T x y->s.heap.get? T=none->(∀c o,c≠z->c≠i->c≠m->c≠TO->s.heap.get? c=some o->q.get? c=some o) ->
   Q (.ref T) { s with heap:=q }) :
  wpAny (model prog w) A (Builtin.«zip.__next__» ⟨[.ref z],[]⟩) (fun P s'=>∃v,P=.done (.ret v)/\Q v s') E s:=by
 unfold Builtin.«zip.__next__»;apply wpAny_bind;apply wpAny_pure;apply wpAny_bind;refine wpAny_field (show s.heap.get? z=some _ from d) rfl (x:=.bool false) rfl ?_;apply wpAny_bind;refine wpAny_field (show s.heap.get? z=some _ from d) rfl (x:=.ref TI) rfl ?_;apply wpAny_bind;refine wpAny_seqItems (show s.heap.get? TI=some _ from I) rfl ?_;dsimp only;rw [if_neg (by simp)];apply wpAny_bind;unfold Builtin.SmallTypes.ownedTupleIsFree;apply wpAny_bind;refine wpAny_field (show s.heap.get? z=some _ from d) rfl (x:=.none) rfl (wpAny_pure ?_);rw [if_pos rfl];apply wpAny_bind;apply wpAny_rule;apply wpAny_bind;refine wpAny_field (show s.heap.get? z=some _ from d) rfl (x:=.ref TO) rfl ?_;dsimp only;apply wpAny_bind;refine wpAny_setField_rec (show s.heap.get? z=some _ from d) (by simp) fun h0 G b=>?_
 apply wpAny_bind;show wpAny _ _ (forIn [(Value.ref i,0),(Value.ref m,1)] _ _) _ _ _;rw [List.forIn_cons];apply wpAny_bind;apply wpAny_bind;apply wpAny_onRaise;show wpAny _ _ (Builtin.SmallTypes.nextOf (.ref i) >>= _) _ _ _;apply wpAny_bind;refine wpAny_nextOf_list_item (h1.extBut b.extBut R) (C.extBut b.extBut n3) hx fun ha ia h=>wpAny_pure ?_;dsimp only;have H:ha.get? TO=some { cls:=.type "tuple",data:=.seq #[.none,.none] }:=h.extBut _ _ X (b.extBut _ _ W B);apply wpAny_bind;refine wpAny_seqItems H rfl ?_;dsimp only;apply wpAny_bind;refine wpAny_updateSeq_pair (s:={ s with heap:=ha }) H fun hb t a=>?_;replace t:hb.get? TO=some { cls:=.type "tuple",data:=.seq #[x,.none] }:=t;apply wpAny_bind;apply wpAny_letGo;apply wpAny_pure;dsimp only;rw [List.forIn_cons];apply wpAny_bind;apply wpAny_bind;apply wpAny_onRaise;show wpAny _ _ (Builtin.SmallTypes.nextOf (.ref m) >>= _) _ _ _;apply wpAny_bind;refine se (((h2.extBut b.extBut V).extBut h.extBut n5).extBut a.extBut (Ne.symm Y)) (((D.extBut b.extBut n4).extBut h.extBut n6).extBut a.extBut U) hy fun hc ic n=>wpAny_pure ?_;dsimp only;have S:hc.get? TO=some { cls:=.type "tuple",data:=.seq #[x,.none] }:=n.extBut _ _ Y t;apply wpAny_bind;refine wpAny_seqItems S rfl ?_;dsimp only;apply wpAny_bind;refine wpAny_updateSeq_pair (s:={ s with heap:=hc }) S fun hd p f=>?_;replace p:hd.get? TO=some { cls:=.type "tuple",data:=.seq #[x,y] }:=p;apply wpAny_bind;apply wpAny_letGo;apply wpAny_pure;dsimp only;rw [List.forIn_nil];apply wpAny_pure;dsimp only;apply wpAny_bind;refine wpAny_seqItems p rfl ?_;dsimp only;apply wpAny_bind;refine wpAny_newTuple (hsz:=by show 2≤sizeLine;decide) ?_;have u:hd.get? z=some { cls:=.type "zip",data:=.fields #[.ellipsis,.bool false,.bool false,.ref TI,.ref TO] }:=f.extBut _ _ (Ne.symm W) (n.extBut _ _ (Ne.symm V) (a.extBut _ _ (Ne.symm W) (h.extBut _ _ (Ne.symm R) G)));have F:=Heap.lt_size u;have L:(hd.push { cls:=.type "tuple",data:=.seq #[x,y] }).get? z=some { cls:=.type "zip",data:=.fields #[.ellipsis,.bool false,.bool false,.ref TI,.ref TO] }:=Heap.get?_push_of_some _ u;apply wpAny_bind;unfold Builtin.SmallTypes.ownedTupleHandOut;dsimp only;apply wpAny_bind;refine wpAny_setField_rec L (by simp) fun he M g=>?_;refine wpAny_setField_rec M (by simp) fun hf N j=>?_;have k:∀c o,c≠z->hd.get? c=some o->hf.get? c=some o:=fun c o J e=>j.extBut _ _ J (g.extBut _ _ J (Heap.get?_push_of_some _ e));refine wpAny_pure ⟨_,rfl,hQ hf hd.objs.size N ?_ ?_ ?_ ?_ ?_⟩
 .exact (((ia.extBut a.extBut (Ne.symm X)).extBut n.extBut (Ne.symm n5)).extBut f.extBut (Ne.symm X)).at fun o e=>k _ o R e
 .obtain⟨o,e,r⟩:=ic.extBut f.extBut (Ne.symm Y);exact⟨o,k _ o V e,r⟩
 .exact j.extBut _ _ (cK F) (g.extBut _ _ (cK F) (Heap.get?_push_size _ rfl))
 .cases e:s.heap.get? hd.objs.size with
  | none=>rfl
  | some o=>exact absurd (Heap.lt_size e) (by rw [f.1,n.1,a.1,h.1,b.1];exact i5 _)
 .exact fun c o J O c3 Z e=>k c o J (f.extBut _ _ Z (n.extBut _ _ c3 (a.extBut _ _ Z (h.extBut _ _ O (b.extBut _ _ J e)))))
theorem xN (j:A.handled=none) (a:fU s.heap z TI TO .none (.bool false)) (T:eN s.heap TI (.ref k) (.ref I))
  (u:s.heap.IsListIter k d 0) (l:s.heap.IsList d M) (y:M[0]? = none) (t:k≠z) (S:d≠z)
  (i:∀h e,(∀c o,c≠z->c≠k->s.heap.get? c=some o->h.get? c=some o)->(∃o,h.get? e=some o/\o.cls=.type "StopIteration")->E (.ref e) { s with heap:=h }) :
  wpAny (model prog w) A (Builtin.«zip.__next__» ⟨[.ref z],[]⟩) Q E s:=by
 unfold Builtin.«zip.__next__»;apply wpAny_bind;apply wpAny_pure;apply wpAny_bind;refine wpAny_field (show s.heap.get? z=some _ from a) rfl (x:=.bool false) rfl ?_;apply wpAny_bind;refine wpAny_field (show s.heap.get? z=some _ from a) rfl (x:=.ref TI) rfl ?_;apply wpAny_bind;refine wpAny_seqItems (show s.heap.get? TI=some _ from T) rfl ?_;dsimp only;rw [if_neg (by simp)];apply wpAny_bind;unfold Builtin.SmallTypes.ownedTupleIsFree;apply wpAny_bind;refine wpAny_field (show s.heap.get? z=some _ from a) rfl (x:=.none) rfl (wpAny_pure ?_);rw [if_pos rfl];apply wpAny_bind;apply wpAny_rule;apply wpAny_bind;refine wpAny_field (show s.heap.get? z=some _ from a) rfl (x:=.ref TO) rfl ?_;dsimp only;apply wpAny_bind;refine wpAny_setField_rec (show s.heap.get? z=some _ from a) (by simp) fun K r b=>?_
 apply wpAny_bind;show wpAny _ _ (forIn [(Value.ref k,0),(Value.ref I,1)] _ _) _ _ _;rw [List.forIn_cons];apply wpAny_bind;apply wpAny_bind;apply wpAny_onRaise;show wpAny _ _ (Builtin.SmallTypes.nextOf (.ref k) >>= _) _ _ _;apply wpAny_bind;refine wpAny_nextOf_list_end j (u.extBut b.extBut t) (l.extBut b.extBut S) y fun h e x o=>?_;have n:=x _ _ (Ne.symm t) r;refine wpAny_setField_rec (s:={ s with heap:=h }) n (by simp) fun g H f=>i g e (fun c p J O v=>f.extBut _ _ J (x _ _ O (b.extBut _ _ J v))) ?_;obtain⟨p,m,c⟩:=o;have F:e≠z:=fun q=>by rw [q,n] at m;cases m;exact absurd (show Value.type "zip"=Value.type "StopIteration" from c) (by decide)
 exact⟨p,f.extBut _ _ F m,c⟩
end
theorem rX:typeLookup (.type "zip") "keys"=pure none:=by rw [typeLookup_type,builtinLookup_eq_fast];kernel_rfl
theorem mZ:typeLookup (.type "zip") "__getattr__"=pure none:=by rw [typeLookup_type,builtinLookup_eq_fast];kernel_rfl
theorem kY:entryFor table "zip.__getattribute__"=some Builtin.«object.__getattribute__»:=
 entryFor_alias (id':="object.__getattribute__") (by kernel_rfl) (by decide +kernel) (by decide +kernel) (by kernel_rfl)
section
variable {prog:Program}{w:World}{A:Around}{E:VP}{s:Shared}
theorem xK (z TI TO:Addr) (f0 f1:Value) (u:Tok):Meets (Builtin.«object.__getattribute__» ⟨[.ref z,.str "keys" u],[]⟩) (fun A R s=>fU s.heap z TI TO f0 f1/\raisesAttr (.ref z) "keys" A R s):=
 .of_wp fun prog w A R s hs=>by
  obtain⟨hp,g,d,tk,os⟩:=s;obtain⟨hx,hs⟩:=hs;unfold fU at hx;have hT:(⟨hp,g,d,tk,os⟩:Shared).TypeIs (.ref z) "zip":=⟨_,hx,rfl⟩;have nk:=rX;unfold Builtin.«object.__getattribute__»;repeat any_goals first | assumption | wp_step
  exact wpAny_raiseAttrError hs.1 hs.2 (attrMsg_fits (by decide +kernel) (by size_fits))
theorem ww (q:fU s.heap z TI TO l j) (i:A.handled=none)
  (h:∀x v,(∀b o,s.heap.get? b=some o->x.get? b=some o)->Q none { s with heap:=x,toks:=v }):wpAny (model prog w) A (getAttr? (.ref z) "keys") Q E s:=by
 obtain⟨p,g,d,v,os⟩:=s;have T:∀t,(⟨p,g,d,t,os⟩:Shared).TypeIs (.ref z) "zip":=fun _=>⟨_,q,rfl⟩;have j:=sub_AttributeError;have y:=p'.lookup;have H:=p'.bind (.ref z);have S:=mZ;have step:∀(n:Nat) (u:Tok) (m:VP) (f:VP),(∀x c e,Heap.NewAttrErr p x e (.ref z) "keys"->f (.ref e) ⟨x,g,d,c,os⟩) ->
   wpAny (model prog w) A (call (Value.builtin "zip.__getattribute__") ([Value.ref z]++[Value.str "keys" u]) []) m f ⟨p,g,d,n,os⟩:=fun n u m f k=>
  call_meets p' (T _) kY (F.args_zip_getattribute_2 _ _) (xK z TI TO _ _ u) ⟨q,i,k⟩
 unfold getAttr?;unfold getAttrBy?;unfold getAttrBy;repeat any_goals first | assumption | exact T _ | (with_reducible refine step _ _ _ _ fun x t e a=>?_) | wp_step
 have r:=a.there;obtain⟨K,P,r⟩:=r;repeat any_goals first | assumption | wp_step
 exact h _ _ a.keeps
end
section
variable {prog:Program}{w:World}{A:Around}{E:VP}{s:Shared}
theorem xJ (n:s.TypeIs (.ref z) "zip")
  (h:wpAny (model prog w) A.in1 (Builtin.«zip.__next__» ⟨[.ref z],[]⟩) (fun f x=>∃v,f=.done (.ret v)/\Q (some v) x) (fun e x=>∃a o,e=.ref a/\x.heap.get? a=some o/\o.cls=.type "StopIteration"/\Q none x) s) :
  wpAny (model prog w) A (pyNext (.ref z)) Q E s:=by
 unfold pyNext;apply wpAny_bind;apply wpAny_attempt;refine wpAny_callSpecial?_slot (name:=Str.ofString "__next__") n F.slot_zip_next (wpAny_call_entry F.slot_zip_next n F.entry_zip_next (wpAny_mono h (fun f x ⟨v,e,q⟩=>⟨v,e,wpAny_pure q⟩) fun e x ⟨a,o,k,c,m,q⟩=>?_) (F.args_zip_next_1 _));subst k;apply wpAny_bind;exact wpAny_isInstance (T:="StopIteration") (b:=true) ⟨_,c,m⟩ isSubtype_stop (wpAny_pure q)
noncomputable def BC (d:Addr) (h:Heap) (z TI TO i x l a:Addr) (k:Nat):Prop:=eN h TI (.ref i) (.ref x)/\h.IsListIter i l k/\h.IsTupleIter x a k /\
 ((k=0/\fU h z TI TO .none (.bool false)/\eN h TO .none .none)\/∃(T:Addr) (o:Obj) (f:Bool),fU h z TI TO (rawInt T) (.bool f)/\h.get? T=some o/\T≠z/\T≠i/\T≠x/\T≠d)
structure ZAp (d z TI TO i1 i2 l1 l2:Addr):Prop where
 nd:[d,z,TI,TO,i1,i2].Nodup
 l1n:l1 ∉ [d,z,TI,TO,i1,i2]
 l2n:l2 ∉ [d,z,TI,TO,i1,i2]
theorem BC.typeIs (x:BC d s.heap z TI TO n q l g k):s.TypeIs (.ref z) "zip":=by
 obtain⟨_,_,_,⟨_,h,_⟩ | ⟨T,o,f,h,_⟩⟩:=x
 .exact⟨_,h,rfl⟩
 .exact⟨_,h,rfl⟩
theorem BC.but (x:BC d h z TI TO q g l j k) (p:ZAp d z TI TO q g l j) (s:Heap.SameBut d h I):BC d I z TI TO q g l j k:=by
 have n:=p.nd;simp only [List.nodup_cons,az,dj,di,not_or] at n;obtain⟨b,c,m,r⟩:=x;refine⟨s.extBut _ _ (Ne.symm n.1.2.1) b,c.extBut s.extBut (Ne.symm n.1.2.2.2.1),m.extBut s.extBut (Ne.symm n.1.2.2.2.2),?_⟩;rcases r with ⟨e,a,t⟩ | ⟨T,o,v,a,t,w,u,i,f⟩
 .exact .inl ⟨e,s.extBut _ _ (Ne.symm n.1.1) a,s.extBut _ _ (Ne.symm n.1.2.2.1) t⟩
 .exact .inr ⟨T,o,v,s.extBut _ _ (Ne.symm n.1.1) a,s.extBut _ _ f t,w,u,i,f⟩
theorem xO (p:ZAp d z TI TO I M l1 l2) (a:BC d s.heap z TI TO I M l1 l2 k) (hd:s.heap.get? d=some od) (l:s.heap.IsList l1 xs) (b:s.heap.IsTuple l2 ys) (B:xs[k]? = some x) (C:ys[k]? = some y)
  (P:∀h T,BC d h z TI TO I M l1 l2 (k+1)->eN h T x y->T≠d->(∀c o,c ∉ [z,TO,I,M]->s.heap.get? c=some o->h.get? c=some o)->Q (some (.ref T)) { s with heap:=h }) :
  wpAny (model prog w) A (pyNext (.ref z)) Q E s:=by
 have V:=p.nd;have R:=p.l1n;have U:=p.l2n;simp only [List.nodup_cons,az,dj,di,not_or] at V R U;refine xJ a.typeIs ?_;obtain⟨m,g,i,O⟩:=a;rcases O with ⟨e,v,t⟩ | ⟨T,W,f1,v,t,J,L,N,Z⟩
 .subst e;refine wy v m t g i l b B C (by grind) (by grind) (by grind) (by grind) (by grind) (by grind) (by grind) (by grind) (by grind) (by grind) fun h T S F K D G q=>?_
  have fresh:∀c o,s.heap.get? c=some o->T≠c:=fun c o f z=>by rw [z,f] at G;cases G
  obtain⟨X,j,_⟩:=g;obtain⟨Y,H,_⟩:=i;exact P h T ⟨q _ _ (by grind) (by grind) (by grind) (by grind) m,F,K,.inr ⟨T,_,false,S,D,fresh _ _ v,fresh _ _ j,fresh _ _ H,fresh _ _ hd⟩⟩ D (fresh _ _ hd) fun c o n f=>q c o (fun z=>n (by simp [z])) (fun z=>n (by simp [z])) (fun z=>n (by simp [z])) (fun z=>n (by simp [z])) f
 .refine wx v m t g i l b B C (by grind) (by grind) (by grind) (by grind) (by grind) (by grind) (by grind) (by grind) (by grind) fun h S F K q=>?_;have dl:d < h.objs.size:=Heap.lt_size (q _ _ (by grind) (by grind) (by grind) hd);have u:∀c o,h.get? c=some o->(h.push { cls:=.type "tuple",data:=.seq #[x,y] }).get? c=some o:=fun c o e=>Heap.get?_push_of_some _ e;refine P _ _ ⟨u _ _ (q _ _ (by grind) (by grind) (by grind) m),?_,?_,.inr ⟨T,W,true,u _ _ S,u _ _ (q _ _ J L N t),J,L,N,Z⟩⟩ (Heap.get?_push_size _ rfl) (cK dl) fun c o n f=>u _ _ (q c o (fun z=>n (by simp [z])) (fun z=>n (by simp [z])) (fun z=>n (by simp [z])) f)
  .obtain⟨o,e,r⟩:=F;exact⟨o,u _ _ e,r⟩
  .obtain⟨o,e,r⟩:=K;exact⟨o,u _ _ e,r⟩
theorem z_ (u:A.handled=none) (p:ZAp d z TI TO j I M l2) (a:BC d s.heap z TI TO j I M l2 k) (l:s.heap.IsList M xs) (i:xs[k]? = none)
  (v:∀h,(∀c o,c ∉ [z,TO,j,I]->s.heap.get? c=some o->h.get? c=some o)->Q none { s with heap:=h }):wpAny (model prog w) A (pyNext (.ref z)) Q E s:=by
 have S:=p.nd;have H:=p.l1n;simp only [List.nodup_cons,az,dj,di,not_or] at S H;refine xJ a.typeIs ?_;obtain⟨r,t,F,y⟩:=a;rcases y with ⟨e,n,g⟩ | ⟨T,P,K,n,g,B,C,D,G⟩
 .subst e;exact xN u n r t l i (by grind) (by grind) fun h e q n=>by obtain⟨o,b,m⟩:=n;exact⟨e,o,rfl,b,m,v h fun c o x f=>q c o (fun z=>x (by simp [z])) (fun z=>x (by simp [z])) f⟩
 .exact xM u n r g t l i (by grind) (by grind) fun h e q ⟨o,b,m⟩=>⟨e,o,rfl,b,m,v h fun c o x f=>q c o (fun z=>x (by simp [z])) (fun z=>x (by simp [z])) f⟩
end
section
variable {prog:Program}{w:World}{K:Type} [DecidableEq K] {t:KeyKind prog w K}{A:Around}{E:VP}{R:Result->Shared->Prop}
inductive ZipsAt (knd:KeyKind prog w K):LV->LV->List (K×Value)->Prop
 | nil {vs:LV}:ZipsAt knd [] vs []
 | cons {key v:Value}{k:K}{us vs:LV}{kvs:List (K×Value)}:knd.is k key=true->ZipsAt knd us vs kvs->ZipsAt knd (key::us) (v::vs) ((k,v)::kvs)
theorem uZ (hh:A.handled=none) {n:Heap} (p:ZAp d z TI TO i1 i2 l1 l2) (fr:∀c ∈ [d,z,TI,TO,i1,i2],n.get? c=none) (G:n.IsList l1 g) (hl2:n.IsTuple l2 ys) :
  ∀(cu:List (K×Value)) (i:Nat) (a:List (K×Value)) (s:Shared),(∀b o,n.get? b=some o->s.heap.get? b=some o)->BC d s.heap z TI TO i1 i2 l1 l2 i->s.heap.DictOf t d a->ZipsAt t (g.toList.drop i) (ys.toList.drop i) cu ->
   ((a++cu).map (·.1)).Nodup->(a++cu).length≤sizeLine->i+cu.length=g.size ->
   (∀u t',(∀b o,n.get? b=some o->u.get? b=some o)->u.DictOf t d (a++cu)->R (.ok (.ret .none)) { s with heap:=u,toks:=t' }) ->
   codeAny (model prog w) A (.builtin "dict.update.loop" ⟨[.ref d,.ref z,rawInt i,.none],[]⟩) R s:=by
 have nd:=p.nd;simp only [List.nodup_cons,az,dj,di,not_or] at nd;have H:∀b o,n.get? b=some o->b ∉ [d,z,TI,TO,i1,i2]:=fun b o e m=>by rw [fr b m] at e;cases e
 have dz:d ∉ [z,TO,i1,i2]:=by simp only [az,dj,di,not_or];grind
 intro cu;induction cu with
 | nil=>
  intro i a s S j hd Q J U hi h;have E:g[i]? = none:=by simp at hi ⊢;lia
  have l:s.heap.IsList l1 g:=by obtain⟨o,y,r⟩:=G;exact⟨o,S _ _ y,r⟩
  refine codeAny_builtin F.entry_dict_update_loop ?_;rw [Around.under_plainId F.plain_dict_update_loop _];unfold Builtin.«dict.update.loop»;show wpAny _ A.in1 (pyNext (.ref z) >>= _) _ _ s;refine wpAny_bind (z_ hh p j l E fun u P=>?_);show wpAny _ A.in1 (Builtin.Dict.addKeywords d [] >>= _) _ _ _;rw [List.append_nil] at h;apply wpAny_bind;apply wpAny_pure;apply wpAny_pure;refine h u s.toks (fun b o e=>P b o (fun m=>H b o e (by simp only [az,dj,di] at m ⊢;grind)) (S b o e)) ?_;obtain⟨o,N,ep,y,r⟩:=hd;exact⟨o,N,ep,P _ _ dz y,r⟩
 | cons kv cu ih=>
  intro i a s S j hd Q J U hi h;have l:s.heap.IsList l1 g:=by obtain⟨o,y,r⟩:=G;exact⟨o,S _ _ y,r⟩
  have I:s.heap.IsTuple l2 ys:=by obtain⟨o,y,r⟩:=hl2;exact⟨o,S _ _ y,r⟩
  generalize er:g.toList.drop i=us at Q;generalize N:ys.toList.drop i=vs at Q;cases Q with
  | cons hk hps=>
   rename_i B v k us' vs';have hx:g[i]? = some B:=by have:=congrArg (·[0]?) er;simpa using this
   have hy:ys[i]? = some v:=by have:=congrArg (·[0]?) N;simpa using this
   have X:g.toList.drop (i+1)=us':=by rw [<- List.drop_drop,er];rfl
   have Y:ys.toList.drop (i+1)=vs':=by rw [<- List.drop_drop,N];rfl
   obtain⟨od,V,W,L,hdr⟩:=id hd;refine codeAny_builtin F.entry_dict_update_loop ?_;rw [Around.under_plainId F.plain_dict_update_loop _];unfold Builtin.«dict.update.loop»;show wpAny _ A.in1 (pyNext (.ref z) >>= _) _ _ s;refine wpAny_bind (xO p j L l I hx hy fun O T za f hTd P=>?_);have kp1:∀b o,n.get? b=some o->O.get? b=some o:=fun b o e=>P b o (fun m=>H b o e (by simp only [az,dj,di] at m ⊢;grind)) (S b o e);have hd1:O.DictOf t d a:=⟨od,V,W,P _ _ dz L,hdr⟩;show wpAny _ A.in1 (holding [Value.ref T] _ >>= _) _ _ _;apply wpAny_bind;apply wpAny_holding;apply wpAny_bind;apply wpAny_tryCatch;unfold Builtin.Dict.pairItems;refine wpAny_bind (kn (T:="tuple") ⟨_,f,rfl⟩ ?_);rw [if_pos (by decide)];refine wpAny_bind (wpAny_seqItems (show O.get? T=some _ from f) rfl (wpAny_pure ?_));show wpAny _ A.in1 (holding [B,v] (dictSet d B v)) _ _ _;refine wpAny_holding ?_;refine wpAny_dictSet_pairs (s:={ s with heap:=O }) hk hd1 (fun h2 D M=>?_) (by simp at U;lia);have hnk:k ∉ a.map (·.1):=by intro hm;rw [List.map_append,List.nodup_append] at J;exact J.2.2 _ hm _ (by simp) rfl
   have Z:stored a k v=a++[(k,v)]:=by unfold stored;rw [if_neg];intro C;obtain⟨x,hx1,hx2⟩:=i9.mp C;exact hnk (cn.mpr ⟨x,hx1,of_decide_eq_true hx2⟩)
   rw [Z] at D;refine wpAny_pure ⟨plainId_quiet F.plain_dict_update_loop _,?_⟩;have kp2:∀b o,n.get? b=some o->h2.get? b=some o:=fun b o e=>M.extBut _ _ (fun q=>H b o e (by simp [q])) (kp1 b o e);have e1:a++(k,v)::cu=(a++[(k,v)])++cu:=by simp
   rw [e1] at J U h;exact ih (i+1) (a++[(k,v)]) { s with heap:=h2,toks:=s.toks+1 } kp2 (za.but p M) D (X ▸ Y ▸ hps) J U (by simp at hi;lia) fun u t' k1 k2=>h u t' k1 k2
end
section
variable {prog:Program}{w:World}{K:Type} [DecidableEq K] {t:KeyKind prog w K}{A:Around}{E:VP}{s:Shared}
theorem tP (l:s.heap.IsList n I) (e:s.heap.IsTuple q M)
  (h:∀x i a TI TO z,(∀b o,s.heap.get? b=some o->x.get? b=some o)->s.heap.objs.size≤i->i < a->a < TI->TI < TO->TO < z->x.IsListIter i n 0->x.IsTupleIter a q 0->eN x TI (.ref i) (.ref a)->eN x TO .none .none ->
   fU x z TI TO .none (.bool false)->Q (.ref z) { s with heap:=x }):wpAny (model prog w) A (call (.type "zip") [.ref n,.ref q]) Q E s:=by
 refine callType_new F.called_zip (by decide) (F.typeCall_zip_2 _ _) (F.newCall_zip_2 _ _) (fun j=>F.args_object_init_3 j _ _) F.entry_zip_new (xL n q I M) ⟨l,e,fun x i a TI TO z k c m r t p v d u g f=>?_⟩;show _/\_;exact⟨⟨_,f,rfl⟩,h x i a TI TO z k c m r t p v d u g f⟩
theorem oM {x:Heap} (hh:A.handled=none) (k0:∀b o,x.get? b=some o->s.heap.get? b=some o) (j:x.IsList l1 xs) (y:x.IsTuple l2 ys)
  (u:x.objs.size≤I) (P:I < M) (B:M < TI) (S:TI < TO) (g:TO < z) (b1:s.heap.IsListIter I l1 0) (b2:s.heap.IsTupleIter M l2 0) (b3:eN s.heap TI (.ref I) (.ref M)) (b4:eN s.heap TO .none .none) (i:fU s.heap z TI TO .none (.bool false))
  (hp:ZipsAt t xs.toList ys.toList C) (hn:(C.map (·.1)).Nodup) (hz:C.length≤sizeLine) (hi:C.length=xs.size)
  (h:∀f U,(∀b o,x.get? b=some o->f.get? b=some o)->f.DictOf t s.heap.objs.size C->Q (.ref s.heap.objs.size) { s with heap:=f,toks:=U }) :
  wpAny (model prog w) A (call (.type "dict") [.ref z]) Q E s:=by
 have fresh:(s.heap.push { cls:=.type "dict",data:=.dict #[] }).DictOf t s.heap.objs.size []:=.new s.heap;have d:∀b o,s.heap.get? b=some o->(s.heap.push { cls:=.type "dict",data:=.dict #[] }).get? b=some o:=fun b o=>Heap.get?_push_of_some _;have k:z < s.heap.objs.size:=Heap.lt_size i;have H:=kt_code_dict_new (prog:=prog) (w:=w) (A:=A.in1) (E:=E) (s:=s) (Value.ref z) (Q₁:=fun v z=>v=.ref s.heap.objs.size/\z={ s with heap:=s.heap.push { cls:=.type "dict",data:=.dict #[] } }) ⟨rfl,rfl⟩;apply callType_codes F.kt_called_dict (F.kt_typeCall_dict_1 (.ref z)) F.entry_dict_init H;rintro _ _ ⟨e,e'⟩;subst e e';generalize s.heap.push { cls:=.type "dict",data:=.dict #[] }=h1 at fresh d;refine⟨fresh.typeIs,F.args_dict_init_2 (.ref s.heap.objs.size) (.ref z),?_⟩;unfold Builtin.«dict.__init__» Builtin.Dict.selfAndRest;apply wpAny_bind;apply wpAny_bind;apply wpAny_notOrdered_dict fresh.typeIs;apply wpAny_pure;show wpAny _ _ (Builtin.Dict.updateFrom "dict.__init__" s.heap.objs.size (.ref z) [] .none) _ _ _;unfold Builtin.Dict.updateFrom;refine wpAny_bind (kn (T:="zip") ⟨_,d _ _ i,rfl⟩ ?_);rw [if_pos (by decide)];refine wpAny_bind (ww (d _ _ i) hh fun Z tk k2=>?_);rw [if_pos (by rfl)];refine wpAny_bind (wpAny_rule ?_);have q:∀b o,s.heap.get? b=some o->Z.get? b=some o:=fun b o e=>k2 b o (d b o e);have G:Z.DictOf t s.heap.objs.size []:=by obtain⟨o,N,ep,ho,r⟩:=fresh;exact⟨o,N,ep,k2 _ _ ho,r⟩
 refine wpAny_bind (wpAny_pyIter_zip (z:=z) (TI:=TI) (TO:=TO) (f0:=.none) (q _ _ i) ?_);refine wpAny_pure ⟨plainId_quiet F.plain_dict_update_loop _,?_⟩;have L:l1 < x.objs.size:=by obtain⟨o,e,_⟩:=j;exact Heap.lt_size e
 have R:l2 < x.objs.size:=by obtain⟨o,e,_⟩:=y;exact Heap.lt_size e
 have n:∀{a b c:Nat},a < b->b < c->a < c:=fun h f=>kS h f;have J:=n P B;have O:=n J S;have D:=n O g;have V:=n D k;have W:=n B S;have X:=n W g;have c7:=n X k;have Y:=n S g;have c9:=n Y k;have ca:=n g k;have low:∀{l c:Nat},l < x.objs.size->x.objs.size≤c->l≠c:=fun h f=>b_ (cq h f);have ge:∀c ∈ [s.heap.objs.size,z,TI,TO,I,M],x.objs.size≤c:=fun c K=>by
  simp only [az,dj,di] at K;rcases K with rfl | rfl | rfl | rfl | rfl | rfl
  .exact aU u (il V)
  .exact aU u (il D)
  .exact aU u (il J)
  .exact aU u (il O)
  .exact u
  .exact aU u (il P)
 have p:ZAp s.heap.objs.size z TI TO I M l1 l2:=by refine⟨?_,fun m=>low L (ge _ m) rfl,fun m=>low R (ge _ m) rfl⟩;simp only [List.nodup_cons,az,dj,di,not_or,List.nodup_nil,not_false_eq_true,and_true];exact⟨⟨cK k,cK c9,cK ca,cK V,cK c7⟩,⟨cK Y,cK g,cK D,cK X⟩,⟨b_ S,cK J,cK B⟩,⟨cK O,cK W⟩,b_ P⟩
 refine uZ (A:=A.in1) (t:=t) (n:=x) hh p (fun c K=>?_) j y C 0 [] _ (fun b o e=>q b o (k0 b o e)) ⟨q _ _ b3,?_,?_,.inl ⟨rfl,q _ _ i,q _ _ b4⟩⟩ G (by simpa using hp) (by simpa using hn) (by simpa using hz) (by lia) fun f U q1 q2=>?_
 .cases e:x.get? c with
  | none=>rfl
  | some o=>exact absurd rfl (low (Heap.lt_size e) (ge c K))
 .obtain⟨o,e,r⟩:=b1;exact⟨o,q _ _ e,r⟩
 .obtain⟨o,e,r⟩:=b2;exact⟨o,q _ _ e,r⟩
 .exact⟨rfl,h f U q1 q2⟩
end
end PySem
namespace Ev
open PySem PySem.Spec PyProof.Rows L2
noncomputable def qR (v Y:EV):EE:=fun L S=>aL (v L S) fun x a=>aL (Y L a) fun y h=>match x,y with
 | .lst k,.tup s=>match cw k with
  | some B=>if (B.Nodup/\few k=true/\B.length≤s.length) then some (.ref h.length,h++[.dct B ((s.take B.length).map .p)]) else none
  | none=>none
 | _,_=>none
theorem vf:∀{B:List bI}{s i:LV}{x:List V},aQ (B.map kV) s->aQ x i->B.length≤x.length->ZipsAt (bU g w) s i (B.zip i)/\L2.KV (B.zip x) (B.zip i)
 | [],_,i,x,h,_,_=>by cases h;exact⟨.nil,.nil⟩
 | k::B,_,_,[],h,_,l=>absurd l (by simp)
 | k::B,_,_,y::x,h,e,l=>by
  cases h with
  | cons r t=>
   cases e with
   | cons n f=>obtain⟨a,b⟩:=vf (g:=g) (w:=w) t f (by simpa using l);exact⟨.cons (lO r) a,.cons ⟨rfl,n⟩ b⟩
theorem kX:∀{xs:List L}{ys:List n},xs.length≤ys.length->(xs.zip ys).map (·.1)=xs/\(xs.zip ys).map (·.2)=ys.take xs.length
 | [],ys,_=>by simp
 | x::xs,[],h=>absurd h (by simp)
 | x::xs,y::ys,h=>by obtain⟨a,b⟩:=kX (xs:=xs) (ys:=ys) (by simpa using h);simp [a,b]
section
variable {X:Cx}{a b:Expr}{v Y:EV}{p G J O:Pos}
theorem Cj (hc:X.calm=true) (gd:Gl X "dict") (md:X.mg "dict"=none) (gz:Gl X "zip") (mz:X.mg "zip"=none) (ha:PE X a (tV X.K v)) (hb:PE X b (tV X.K Y)) (hs:starEach [a,b] X.env=[(false,eval a X.env),(false,eval b X.env)]) (U:starEach [b] X.env=[(false,eval b X.env)]) (hz:bootBuiltins "zip"=some (.type "zip")) :
  PE X (.Call (.Name "dict" p) [.Call (.Name "zip" G) [a,b] [] O] [] J) (tE X.K (qR v Y)):=by
 intro pins s σ H Q I ⟨F,m,L,S,d,S',r,l,q,k⟩;obtain⟨x,S1,e1,q⟩:=ai q;obtain⟨y,S2,e2,q⟩:=ai q;have hh:X.A.handled=none:=I.ok.hd hc;refine kT (j7 I gd md PyProof.Rows.boot_dict ?_ (by decide) (by decide));refine mY (Calls.spliced_cons ?_) rfl rfl;refine kT (j7 I gz mz hz ?_ (by decide) (by decide));refine mY ?_ (by rw [hs,U]) (by rw [U];rfl);rw [hs];refine Calls.spliced_cons (cY (ha pins s σ H (fun h g=>∃n P,Stp F m H n P g/\Rel X.K n g P S1/\RP X.K n g x h) I ⟨F,m,L,S,x,S1,r,l,e1,fun h n P g s1 r1 p1=>⟨n,P,s1,r1,p1⟩⟩) fun u s1 ⟨h,g,I1,ru,n,P,Z,r1,p1⟩=>
  Calls.spliced_cons (cY (hb pins s1 σ g (fun h C=>∃f D,Stp n P g f D C/\Rel X.K f C D S2/\RP X.K f C y h) I1 ⟨n,P,L,S1,y,S2,r1,l.mono Z,e2,fun h f D C E r2 G=>⟨f,D,E,r2,G⟩⟩) fun u2 E ⟨v2,C,M,ru2,f,D,st2,r2,G⟩=>jZ ?_))
 cases x with
 | lst ks=>
  cases y with
  | tup vs=>
   dsimp only at q;cases ek:cw ks with
   | none=>rw [ek] at q;cases q
   | some B=>
    rw [ek] at q;dsimp only at q;split at q
    .rename_i c;cases q;obtain⟨ax,xs,rfl,hq,rp⟩:=RP.mono st2 p1;obtain⟨ay,ys,rfl,ta,rq⟩:=G;cases (show u=Value.ref ax from ru);cases (show u2=Value.ref ay from ru2);obtain⟨z1,V,n1,rx,T,ex⟩:=M.lstM hq.2;obtain⟨i,ry,W,hzy⟩:=M.tuple ta.sq;have exs:=h_ ek rp;subst exs;have K:B.length≤ys.length:=by rw [<- rq.length];exact c.2.2
     obtain⟨za,zk⟩:=vf (g:=X.prog) (w:=X.w) rx ry K;have hl2:B.length≤i.length:=by rw [<- ry.length];exact K
     obtain⟨zf1,zf2⟩:=kX (xs:=B) (ys:=ys) K;obtain⟨A,_⟩:=kX (xs:=B) (ys:=i) hl2;have N:(B.zip i).length=V.toArray.size:=by have:=congrArg List.length A;rw [bP] at this;rw [this,List.size_toArray,<- T,bP]
     have hkz:(B.zip i).length≤sizeLine:=by rw [N,List.size_toArray,<- T];exact z1
     have R:E.heap.IsList ax V.toArray:=⟨_,ex,rfl,n1,rfl⟩;refine tP R W fun e i1 i2 TI TO z k0 a1 a2 a3 a4 a5 b1 b2 b3 b4 b5=>jZ ?_;refine oM (t:=bU X.prog X.w) (s:={ E with heap:=e }) (x:=E.heap) hh k0 R W a1 a2 a3 a4 a5 b1 b2 b3 b4 b5 (by simpa using za) (by rw [A];exact c.1) hkz N fun h'' t' k1 dd=>?_;have j:E.heap.objs.size≤e.objs.size:=il (kU a1 (kS a2 (kS a3 (kS a4 (kS a5 (Heap.lt_size b5))))));have hf:C e.objs.size=none:=M.hok.fresh j;have hsm:(e.objs.size == sysModules)=false:=by have:=M.big;simp only [j3];exact cK (cq this j)
     have hkv:(B.zip ys).length≤sizeLine:=by have e1:=congrArg List.length zf1;have e2:=congrArg List.length A;rw [bP] at e1 e2;lia
     have I3:=M.laid (a:=e.objs.size) (o:=.dK (B.zip ys)) (t':=t') k1 j ⟨hkv,hsm,_,zk,dd⟩;refine⟨.ref e.objs.size,_,I3,rfl,k (.ref e.objs.size) f (D++[e.objs.size]) _ (Z.trans (st2.trans (gq hf))) (r2.own hf ⟨_,aN,zf1,?_⟩) ⟨e.objs.size,rfl,?_⟩⟩
     .rw [zf2,List.map_take];exact (dA.mono (gq hf) (dA.ofP rq)).take _
     .rw [<- r2.len,fZ (Nat.le_refl _)];simp
    .cases q
  | _=>cases q
 | _=>cases y <;> cases q
end
end Ev
namespace Ev
open PySem PySem.Spec PyProof.Rows L2
noncomputable def pureOf (g:GF) (ps:List P):Option P:=match g (ps.map .p) [] with
 | some (d,S)=>(toP 9 d S).map (·.1)
 | none=>none
noncomputable def cH (p n:Nat) (b:ES):GF:=fun s S=>if s.length=p then match b (s.map some++List.replicate (n-s.length) none) S with
 | some (.rt d,_,h)=>some (d,h)
 | some (.nx,_,h)=>some (.p .non,h)
 | _=>none else none
variable {K:FG}{F:Aa}{H:Hp}
theorem Rel.nil (f:∀a,F a->H a≠none):Rel K F H [] []:=⟨rfl,by simp,by simp,by simp,by simp,f⟩
theorem ng (h:Ho K (pureOf g) y H s b):oa K g y H s b:=by
 obtain⟨F,n,d,t,r,q,k⟩:=h;unfold pureOf at q;cases e:g (n.map .p) [] with
 | none=>rw [e] at q;cases q
 | some z=>
  obtain⟨a,S⟩:=z;rw [e] at q;dsimp only at q;cases x:toP 9 a S with
  | none=>rw [x] at q;cases q
  | some o=>obtain⟨p,A⟩:=o;rw [x] at q;cases q;refine⟨F,[],n.map .p,[],a,S,.nil t,dA.ofP r,e,fun v P B c j w i=>?_⟩;obtain⟨f,l,u,_,m⟩:=nc 9 x w i;exact k v f c ((j.trans l).toGrow u.ft) m
theorem FnOk.pure (G:FnOk s w K b base pF k f d ps (oa K g)):FnOk s w K b base pF k f d ps (Ho K (pureOf g)):=
 FnOk.imp G fun _ _ _ _ h=>ng h
theorem dA.toSt (r:dA K F H m s k):RL K F H m (L2.start N k) (s.map some++List.replicate (N.length-s.length) none):=by
 have l:=r.length;refine⟨by unfold L2.start;simp [l],fun i d e=>?_⟩;by_cases h:i < s.length
 .rw [List.getElem?_append_left (by simpa using h),List.getElem?_map] at e;cases q:s[i]? with
  | none=>rw [q] at e;cases e
  | some v=>rw [q] at e;cases e;obtain⟨x,a,p⟩:=r.get q;refine⟨x,?_,p⟩;unfold L2.start;rw [List.getElem?_append_left (by simpa [<- l] using h),List.getElem?_map,a];rfl
 .rw [fZ (by simpa using h),t_] at e;split at e <;> cases e
theorem DY {P:Program}{w:World}{K:FG}{i:SV}{base:Heap}{x u:Str}{st:Stmt}{f:Addr}{p:FuncData}{N ps:LS}{k:Nat}{b:ES} (F:Fun K x u st f p) (S:FnScope N ps (ah st))
  (G:∀(c:Value) (A:Around) (o:List Env) (s:Shared) (H:Hp) (E:XK),Room k (A.deeper (envOfC u (ah st) s.heap.objs.size f c)) ->
   mx (tF pF P w K i base N u (ah st) f c A o s H E).nox (av st) (kP K b)):FnOk P w K i base pF (k+1) f p ps (oa K (cH ps.length N.length b)):=by
 refine F.ok S (fun M H Q E h=>?_) (fun c A o s H M Q E I h=>⟨_,G c A o s H E I,?_⟩)
 .obtain⟨F,m,a,S,d,C,y,r,q,k⟩:=h;rw [<- r.length];unfold cH at q;split at q
  .assumption
  .cases q
 .obtain⟨F,m,a,S,d,C,y,r,q,k⟩:=h;unfold cH at q;split at q
  .cases e:b (a.map some++List.replicate (N.length-a.length) none) S with
   | none=>rw [e] at q;cases q
   | some z=>
    obtain⟨l,L,D⟩:=z;rw [e] at q;refine⟨F,m,_,S,l,L,D,y,r.toSt,e,fun O n g t B j T=>?_⟩;cases l with
    | nx=>cases q;exact k .non n g t B j rfl
    | bk=>cases q
    | ct=>cases q
    | rt R=>intro v J;cases q;exact k v n g t B j J
  .cases q
theorem zw:FnOk g w K c base pF k f b ps (oa K fun _ _=>none):=by
 have n:∀v H Q E,¬oa K (fun _ _=>none) v H Q E:=fun v H Q E h=>by obtain⟨F,m,e,S,d,x,_,_,q,_⟩:=h;cases q
 exact⟨fun v H Q E h=>absurd h (n v H Q E),fun A o s H a u v Q E _ _ _ _ h=>absurd h (n v H Q E)⟩
structure Tr where
 v:Option EV:=none
 e:Option EE:=none
 b:Option EB:=none
 w:Option EB:=none
noncomputable def Tr.ofV (f:Option EV):Tr:=⟨f,f.map eV,f.map fun g=>bT (eV g),f.map bV⟩
noncomputable def Tr.ofC (f:Option EV):Tr:=⟨f,f.map eV,f.map bV,f.map bV⟩
noncomputable def Tr.ofE (f:Option EE):Tr:=⟨f.map vE,f,f.map bT,f.map fun g=>bV (vE g)⟩
noncomputable def Tr.ofB (b w:Option EB):Tr:=⟨w.map vB,w.map fun g=>eV (vB g),b,w⟩
structure Cn where
 N:LS
 own:LS
 deep:LS
 refs:LS
 ks:List (Str×NameKind)
 F:Str->Option GF
 G:Str->Option P
 A:Str->Str->Bool
 M:Str->Str->Option GF
 I:Str->Option GF
noncomputable def kC:LS->Str->Option Nat
 | [],_=>none
 | y::r,x=>if y=x then some 0 else (kC r x).map (·+1)
theorem ny:∀{N:LS}{x:Str}{i:Nat},kC N x=some i->N[i]? = some x
 | [],_,_,h=>by cases h
 | y::r,x,i,h=>by
  unfold kC at h;split at h
  .rename_i e;cases h;simp [e]
  .cases q:kC r x with
   | none=>rw [q] at h;cases h
   | some j=>rw [q] at h;cases h;simpa using ny q
theorem lP:∀{N:LS}{x:Str}{i:Nat},N.Nodup->N[i]? = some x->kC N x=some i
 | [],_,_,_,h=>by simp at h
 | y::r,x,0,_,h=>by
  have:y=x:=by simpa using h
  unfold kC;rw [if_pos this]
 | y::r,x,i+1,d,h=>by
  have a:r[i]? = some x:=by simpa using h
  have n:¬y=x:=fun e=>by subst e;exact (List.nodup_cons.mp d).1 (bA a)
  unfold kC;rw [if_neg n,lP (List.nodup_cons.mp d).2 a];rfl
noncomputable def dt (s:List (Str×NameKind)) (x:Str) (l:List NameKind):Bool:=match s.lookup x with
 | some k=>l.contains k
 | none=>false
noncomputable def iD (x:Str):Bool:=!(x == ("__debug__":Str)) && !(x == ("__classdict__":Str))
noncomputable def Kj:Operator->Option (P->P->Option P)
 | .Add=>some aG
 | .Sub=>some rD
 | .Mult=>some du
 | .FloorDiv=>some aK
 | .Mod=>some a_
 | .Pow=>some Bp
 | _=>none
noncomputable def G4:CmpOp->Option (P->P->Option P)
 | .Lt=>some z8
 | .LtE=>some GY
 | .Gt=>some Ey
 | .GtE=>some GZ
 | _=>none
noncomputable def G3:CmpOp->Option (D->D->aJ->Option P)
 | .Eq=>some d9
 | .NotEq=>some mN
 | .In=>some z7
 | .Is=>some rW
 | .IsNot=>some dm
 | _=>none
noncomputable def n_:List (Option EV)->Option gj
 | []=>some aS
 | a::r=>a.bind fun f=>(n_ r).map fun g=>aR f g
noncomputable def wI:List (Option EE)->Option n0
 | []=>some bf
 | a::r=>a.bind fun f=>(wI r).map fun g=>ac f g
noncomputable def r9 (o:BoolOp):List (Option EB)->Option EB
 | []=>none
 | [a]=>a
 | a::r=>a.bind fun f=>(r9 o r).map fun g=>match o with | .And=>gX f g | .Or=>wq f g
noncomputable def IQ (o:Option (Option EV)):Option EO:=match o with
 | none=>some gI
 | some a=>a.map gm
noncomputable def zc (t:Str):Option String:=if t=("bool":Str) then some "bool" else if t=("list":Str) then some "list" else none
noncomputable def zT (f:Str):Option (List P->Option P):=
 if f=("int":Str) then some bJ else if f=("list":Str) then some lH else if f=("tuple":Str) then some bK else if f=("abs":Str) then some lZ else if f=("any":Str) then some pk else none
noncomputable def By:LS:=["len","isinstance","int","bool","tuple","list","str","max","min","dict","range","abs","enumerate","sorted","all","any","sum","set","zip"]
noncomputable def oX (a s:List (Str×NameKind)):List (Str×NameKind):=a.map fun (n,k)=>if (k == .free && s.lookup n == some .cell) then (n,.cell) else (n,k)
noncomputable def u_ (u:Cn) (j:Scope) (Y:LS) (p:List Nat) (n:Nat):Bool:=
 decide (j.kind=.function) && j.names.all (fun x=>x.2 != .cell) && j.names.all (fun x=>x.2 != .local || j.names.lookup x.1 == some .local)
  && j.names.all (fun x=>x.2 != .free || (j.names.lookup x.1 == some .free && (u.ks.lookup x.1 == some .cell || u.ks.lookup x.1 == some .free)))
  && decide (u.N=Y.take u.N.length) && decide (Y.length=u.N.length+n)
  && j.names.all (fun x=>x.2 != .local || match kC u.N x.1 with | some i=>p.contains i | none=>true)
noncomputable def sO (u:Cn) (f g:Str):Bool:=decide (f=g) && dt u.ks f [.globalImplicit]
noncomputable def ze:Expr->Bool
 | .Tuple ..=>true
 | _=>false
noncomputable def y1 (u:Cn) (f:Str) (a:Expr):Option Expr:=match a with
 | .Call (.Name r _) [b] [] _=>if (decide (f=("list":Str)) && sO u r "range")=true then some b else none
 | _=>none
noncomputable def uf (u:Cn) (f:Str) (a:Expr):Option (Expr×Expr):=match a with
 | .Call (.Name r _) [b,c] [] _=>if (decide (f=("dict":Str)) && sO u r "zip")=true then some (b,c) else none
 | _=>none
noncomputable def x5 (u:Cn) (T:Expr->Tr) (O e:Expr):Option gj:=match e with
 | .Call (.Name f _) r [] _=>if sO u f "range"=true then match r with
   | [a]=>(T a).v.map gW
   | _=>none
  else if sO u f "enumerate"=true then match r with
   | [a]=>if ze O=true then (T a).v.map ol else none
   | _=>none
  else (T e).v.map g6
 | .Set ..=>none
 | _=>(T e).v.map g6
noncomputable def Aq (N:LS) (s:List (Str×NameKind)) (k:List NameKind):Expr->Option iY
 | .Name x _=>if dt s x k=true then (kC N x).map ag else none
 | _=>none
noncomputable def x4 (N:LS) (s:List (Str×NameKind)) (k:List NameKind):Ab->Option (List iY)
 | []=>some []
 | e::r=>(Aq N s k e).bind fun g=>(x4 N s k r).map fun h=>g::h
noncomputable def xZ (N:LS) (s:List (Str×NameKind)) (k:List NameKind):Expr->Option iY
 | .Tuple B _ _=>(x4 N s k B).map aV
 | e=>Aq N s k e
noncomputable def F7:Expr->LS
 | .Name x _=>[x]
 | _=>[]
noncomputable def gJ:Expr->LS
 | .Tuple B _ _=>B.flatMap F7
 | e=>F7 e
noncomputable def mu (N:LS):LS->LS
 | []=>[]
 | t::r=>if (N.contains t || (mu N r).contains t)=true then mu N r else t::mu N r
noncomputable def JM (N:LS) (p:LS):List Nat:=p.filterMap fun t=>kC N t
noncomputable def na (u:Cn) (T:Cn->Expr->Tr) (l O iter:Expr) (i:Ab) (j:Scope):Option EV:=
 if (u_ u j (u.N++mu u.N (gJ O)) (JM u.N (gJ O)) (mu u.N (gJ O)).length && decide (u.N++mu u.N (gJ O)).Nodup)=true then
  (x5 u (T u) O iter).bind fun t=>(xZ (u.N++mu u.N (gJ O)) (oX j.names u.ks) [.local] O).bind fun g=>
   (match i with | []=>some eT | [c]=>(T ⟨u.N++mu u.N (gJ O),u.own.filter (fun x=>!(gJ O).contains x),[],u.refs,oX j.names u.ks,u.F,u.G,u.A,u.M,u.I⟩ c).b | _=>none).bind fun c=>
   (T ⟨u.N++mu u.N (gJ O),u.own.filter (fun x=>!(gJ O).contains x),[],u.refs,oX j.names u.ks,u.F,u.G,u.A,u.M,u.I⟩ l).v.map fun e=>aY t (JM u.N (gJ O)) (mu u.N (gJ O)).length g c e
 else none
noncomputable def nB (u:Cn):Nat->Expr->Bool
 | 0,_=>false
 | _,.Name x _=>u.own.contains x
 | n+1,.Subscript a _ _=>nB u n a
 | n+1,.Attribute a _ _=>nB u n a
 | n+1,.Call (.Attribute o m _) (_::_) [] _=>decide (m=("setdefault":Str)) && nB u n o
 | _,_=>false
noncomputable def sf:Expr->Option (Ab)
 | .Tuple B _ _=>some B
 | _=>none
noncomputable def yk:Ab->Option Expr
 | [a,.List [] _]=>some a
 | _=>none
noncomputable def xa:Expr->Bool
 | .Name ..=>true
 | .Attribute ..=>true
 | .Subscript ..=>true
 | _=>false
noncomputable def Ek (u:Cn) (o:Option EE) (os:Expr) (m:Str) (Q:List (Option EE)) (p c:Pos):Tr:=
 if (xa os && (p.endLine == c.line) && decide (Q.length < 29))=true then .ofE (o.bind fun x=>(wI Q).map fun a=>dG u.M x m a) else {}
noncomputable def El (u:Cn) (o:Expr) (m:Str) (n:Str) (a c:Pos):Bool:=decide (m=n) && nB u 4 o && (a.endLine == c.line)
noncomputable def tr (u:Cn):Nat->Expr->Tr
 | 0,_=>{}
 | n+1,e=>match e with
  | .Constant c _ _=>match c with
   | .int i=>.ofV (some (vC (.int i)))
   | .bool i=>.ofV (some (vC (.bl i)))
   | .none=>.ofV (some (vC .non))
   | .str i=>.ofV (some (vC (.str i)))
   | _=>{}
  | .Name x _=>if (dt u.ks x [.local,.cell,.free] && iD x)=true then .ofE ((kC u.N x).map aa) else
    if (dt u.ks x [.globalImplicit] && iD x)=true then .ofV ((u.G x).bind fun v=>if zi v=true then none else some (vC v)) else {}
  | .BinOp a p b _=>.ofV ((Kj p).bind fun g=>(tr u n a).v.bind fun x=>(tr u n b).v.map fun y=>ab g x y)
  | .UnaryOp p a _=>match p with
   | .USub=>.ofV ((tr u n a).v.map (Cs u3))
   | .Not=>.ofB ((tr u n a).b.map mw) ((tr u n a).w.map mw)
   | _=>{}
  | .BoolOp p B _=>.ofB (r9 p (B.map fun x=>(tr u n x).b)) (r9 p (B.map fun x=>(tr u n x).w))
  | .Compare a H F _=>match H,F with
   | [p],[b]=>.ofC (match G4 p with
    | some g=>(tr u n a).v.bind fun x=>(tr u n b).v.map fun y=>ab g x y
    | none=>(G3 p).bind fun g=>(tr u n a).e.bind fun x=>(tr u n b).e.map fun y=>aH g x y)
   | [p,d],[b,c]=>.ofC ((G4 p).bind fun g=>(G4 d).bind fun P=>(tr u n a).v.bind fun x=>(tr u n b).v.bind fun y=>(tr u n c).v.map fun z=>k_ g P x y z)
   | _,_=>{}
  | .IfExp c a b _=>{ Tr.ofV ((tr u n c).b.bind fun q=>(tr u n a).v.bind fun x=>(tr u n b).v.map fun y=>BJ q x y) with b:=none }
  | .Tuple B _ _=>.ofV ((n_ (B.map fun x=>(tr u n x).v)).map aF)
  | .List B _=>.ofV ((n_ (B.map fun x=>(tr u n x).v)).map aW)
  | .Dict D E _=>match D,E with
   | [],[]=>{ e:=some lU,v:=some (vE lU) }
   | _,_=>{}
  | .Subscript a i _=>match i with
   | .Slice lo C st _=>if st.isSome=true then {} else .ofV ((tr u n a).v.bind fun x=>(IQ (lo.map fun y=>(tr u n y).v)).bind fun y=>(IQ (C.map fun z=>(tr u n z).v)).map fun z=>j5 x y z)
   | _=>if nB u 4 a=true then (match sf i with
    | some B=>.ofE ((tr u n a).e.bind fun x=>(n_ (B.map fun z=>(tr u n z).v)).map fun y=>uU x y)
    | none=>.ofE ((tr u n a).e.bind fun x=>(tr u n i).v.map fun y=>t3 x y)) else .ofV ((tr u n a).v.bind fun x=>(tr u n i).v.map fun y=>ab am x y)
  | .Call K r w s=>match w with
   | _::_=>{}
   | []=>match K with
   | .Name f _=>if (dt u.ks f [.globalImplicit] && iD f)=true then
    match u.I f with
    | some g=>match r with
     | []=>{}
     | _=>.ofE ((wI (r.map fun x=>(tr u n x).e)).map fun a=>pa g f a)
    | none=>match u.F f with
    | some g=>match r with
     | []=>{}
     | _=>if u.refs.contains f=true then .ofV ((wI (r.map fun x=>(tr u n x).e)).map fun a=>cB g a) else .ofV ((n_ (r.map fun x=>(tr u n x).v)).map fun a=>af (pureOf g) a)
    | none=>match r with
     | []=>{}
     | [a]=>if f=("len":Str) then .ofV ((tr u n a).e.map dU) else if f=("sorted":Str) then .ofV ((tr u n a).e.map oS) else match y1 u f a with
      | some b=>.ofV ((tr u n b).v.map Ei)
      | none=>match uf u f a with
       | some z=>.ofE ((tr u n z.1).v.bind fun x=>(tr u n z.2).v.map fun y=>qR x y)
       | none=>.ofV ((zT f).bind fun g=>(n_ [(tr u n a).v]).map fun x=>af g x)
     | [a,.Name t G]=>if f=("isinstance":Str) then (if dt u.ks t [.globalImplicit]=true then (match zc t with | some T=>.ofV ((tr u n a).e.map fun x=>ui T x) | none=>{}) else {}) else {}
     | _=>{}
   else {}
   | .Attribute o m h=>match r with
    | [a]=>if El u o m "append" h s=true then .ofE ((tr u n o).e.bind fun x=>(tr u n a).e.map fun y=>bu x y) else
    if El u o m "extend" h s=true then .ofE ((tr u n o).e.bind fun x=>(tr u n a).v.map fun y=>dH x y) else
    if (decide (m=("index":Str)) && xa o && (h.endLine == s.line))=true then .ofV ((tr u n o).v.bind fun x=>(tr u n a).v.map fun y=>n2 x y) else
    (match sf a with
    | some B=>if El u o m "get" h s=true then .ofE ((tr u n o).e.bind fun x=>(n_ (B.map fun z=>(tr u n z).v)).map fun y=>s_ x y) else Ek u (tr u n o).e o m [(tr u n a).e] h s
    | none=>Ek u (tr u n o).e o m [(tr u n a).e] h s)
    | args=>if (decide (m=("get":Str)) && xa o && (h.endLine == s.line))=true then (match r with
      | [a,b]=>.ofV ((tr u n o).v.bind fun x=>(tr u n a).v.bind fun y=>(tr u n b).v.map fun z=>vn x y z)
      | _=>{}) else match yk r with
     | some a=>if El u o m "setdefault" h s=true then .ofE ((tr u n o).e.bind fun x=>(tr u n a).v.map fun y=>mO x y (cy aS)) else Ek u (tr u n o).e o m (r.map fun x=>(tr u n x).e) h s
     | none=>Ek u (tr u n o).e o m (r.map fun x=>(tr u n x).e) h s
   | _=>{}
  | .Attribute o f _=>if xa o=true then .ofE ((tr u n o).e.map fun x=>dP u.A x f) else {}
  | .ListComp l A j _=>match A with
   | [⟨O,iter,k,0⟩]=>.ofV (na u (fun S x=>tr S n x) l O iter k j)
   | _=>{}
  | _=>{}
noncomputable def E_ (u:Cn) (n _k:Nat) (e:Expr):Option EE:=match e with
 | .Call (.Name f _) r [] _=>if (dt u.ks f [.globalImplicit] && iD f && !r.isEmpty && u.deep.contains f)=true then
   match u.F f with
   | some g=>(wI (r.map fun x=>(tr u n x).e)).map fun a=>fC g a
   | none=>(tr u n e).e
  else (tr u n e).e
 | _=>(tr u n e).e
structure XOk (Γ:Cn) (X:Cx):Prop where
 hN:X.N=Γ.N
 nd:X.N.Nodup
 ks:X.env.scope.names=Γ.ks
 kd:X.env.scope.kind=.function
 calm:X.calm=true
 hu:X.A.units+64 < cLine
 fns:∀x g,Γ.F x=some g->∃k f fd ps,FnOk X.prog X.w X.K X.mg X.base pF k f fd ps (oa X.K g)/\Room k X.A/\X.mg x=some (.ref f)/\PySem.W.keepIn X.K (.ref f)=true/\Binds X.K fd ps []
 blt:∀x ∈ By,X.mg x=none
 glb:∀x v,Γ.G x=some v->mR X.w X.K X.mg x v
 attrs:Ig X.K Γ.A
 meths:Ib X Γ.M
 mks:∀c g,Γ.I c=some g->∃C k f fd ps,iZ X.K c C/\X.mg c=some (.ref C)/\Mk X.K C f/\FnOk X.prog X.w X.K X.mg X.base pF k f fd ps (oa X.K g)/\Room (k+1) X.A/\Binds X.K fd ps []
structure Good (X:Cx) (ex:Expr) (t:Tr):Prop where
 v:∀f,t.v=some f->PE X ex (tV X.K f)
 e:∀f,t.e=some f->PE X ex (tE X.K f)
 b:∀f,t.b=some f->PT X ex (tQ X.K f)
 w:∀f,t.w=some f->PE X ex (tV X.K (vB f))
section
variable {X:Cx}{e:Expr}
theorem Good.no:Good X e {}:=⟨fun _ h=>(by cases h),fun _ h=>(by cases h),fun _ h=>(by cases h),fun _ h=>(by cases h)⟩
noncomputable def z4 (e:Expr):Prop:=∀J w,isTrue e J w=(do let v <- w;standAt e.pos;holding [v] (truthy v))
theorem Good.ofV {t:Option EV} (h:∀f,t=some f->PE X e (tV X.K f)) (p:z4 e):Good X e (.ofV t) where
 v:=h
 e:=fun f q=>by
  cases t with
  | none=>cases q
  | some g=>cases q;exact Eh (h _ rfl)
 b:=fun f q=>by
  cases t with
  | none=>cases q
  | some g=>cases q;exact yT (Eh (h _ rfl)) (p _)
 w:=fun f q=>by
  cases t with
  | none=>cases q
  | some g=>cases q;exact vg (h _ rfl)
theorem Good.ofC {t:Option EV} (h:∀f,t=some f->PE X e (tV X.K f)) (x:∀f,t=some f->PT X e (tQ X.K (bV f))):Good X e (.ofC t) where
 v:=h
 e:=fun f q=>by
  cases t with
  | none=>cases q
  | some g=>cases q;exact Eh (h _ rfl)
 b:=fun f q=>by
  cases t with
  | none=>cases q
  | some g=>cases q;exact x _ rfl
 w:=fun f q=>by
  cases t with
  | none=>cases q
  | some g=>cases q;exact vg (h _ rfl)
theorem Good.ofE {t:Option EE} (h:∀f,t=some f->PE X e (tE X.K f)) (p:z4 e):Good X e (.ofE t) where
 v:=fun f q=>by
  cases t with
  | none=>cases q
  | some g=>cases q;exact Iv (h _ rfl)
 e:=h
 b:=fun f q=>by
  cases t with
  | none=>cases q
  | some g=>cases q;exact yT (h _ rfl) (p _)
 w:=fun f q=>by
  cases t with
  | none=>cases q
  | some g=>cases q;exact vg (Iv (h _ rfl))
theorem Good.ofB {b w:Option EB} (h:∀f,b=some f->PT X e (tQ X.K f)) (hw:∀f,w=some f->PE X e (tV X.K (vB f))):Good X e (.ofB b w) where
 v:=fun f q=>by
  cases w with
  | none=>cases q
  | some g=>cases q;exact hw _ rfl
 e:=fun f q=>by
  cases w with
  | none=>cases q
  | some g=>cases q;exact Eh (hw _ rfl)
 b:=h
 w:=hw
end
theorem aw {t e:Type}{x:Option t}{f:t->Option e}{r:e} (h:x.bind f=some r):∃a,x=some a/\f a=some r:=by
 cases x with
 | none=>cases h
 | some a=>exact⟨a,rfl,h⟩
theorem aA {t e:Type}{x:Option t}{f:t->e}{r:e} (h:x.map f=some r):∃a,x=some a/\r=f a:=by
 cases x with
 | none=>cases h
 | some a=>cases h;exact⟨a,rfl,rfl⟩
noncomputable def dS (e:Expr):Prop:=∀B J,starEach (e::B) J=(false,eval e J)::starEach B J
variable {u:Cn}{n:Nat}{e:Expr}
theorem bE (h:(tr u n e).v.isSome=true\/(tr u n e).e.isSome=true):dS e:=by
 intro B J;cases n with
 | zero=>rcases h with h | h <;> cases h
 | succ n=>cases e <;> first | rfl | (rcases h with h | h <;> cases h)
theorem np (h:(tr u n e).v.isSome=true):kN e:=by
 intro o i;cases n with
 | zero=>cases h
 | succ n=>cases e <;> first | rfl | cases h
variable {B:Ab}{J:Env}{E:Pos}
theorem iR (h:∀e ∈ B,dS e):(backTo E (starEach B J)).any (·.1)=false:=by
 induction B with
 | nil=>rfl
 | cons e B i=>
  rw [h e List.mem_cons_self B J];have:=i fun x a=>h x (bg _ a)
  unfold backTo at this ⊢;rw [List.map_cons,gE,this];rfl
section
variable {u:Cn}{X:Cx} (h:XOk u X)
include h
theorem XOk.gl (q:dt u.ks x [.globalImplicit]=true):Gl X x:=by
 unfold Gl Env.kindOf;rw [h.ks];unfold dt at q;cases e:u.ks.lookup x with
 | none=>rw [e] at q;cases q
 | some k=>rw [e] at q;cases k <;> first | rfl | cases q
theorem XOk.vis (q:dt u.ks x [.local,.cell,.free]=true):Ed X.env.scope x:=by
 unfold Ed;rw [h.ks];unfold dt at q;cases e:u.ks.lookup x with
 | none=>rw [e] at q;cases q
 | some k=>rw [e] at q;cases k <;> first | exact .inl rfl | exact .inr (.inl rfl) | exact .inr (.inr rfl) | cases q
theorem XOk.loc (q:dt u.ks x [.local,.cell]=true):L2.Loc X.env.scope x:=by
 unfold L2.Loc;rw [h.ks];unfold dt at q;cases e:u.ks.lookup x with
 | none=>rw [e] at q;cases q
 | some k=>rw [e] at q;cases k <;> first | exact .inl rfl | exact .inr rfl | cases q
theorem XOk.local (q:dt u.ks x [.local]=true):X.env.scope.names.lookup x=some .local:=by
 rw [h.ks];unfold dt at q;cases e:u.ks.lookup x with
 | none=>rw [e] at q;cases q
 | some k=>rw [e] at q;cases k <;> first | rfl | cases q
omit h in
theorem fA (q:iD x=true):(x == ("__debug__":Str))=false/\(x == ("__classdict__":Str))=false:=by unfold iD at q;rw [Bool.and_eq_true] at q;exact⟨by simpa using q.1,by simpa using q.2⟩
theorem XOk.get (q:kC u.N x=some i):X.N[i]? = some x:=by rw [h.hN];exact ny q
omit h in
theorem gp {u:Cn}{n:Nat}:∀{B:Ab}{s:gj},(∀e ∈ B,Good X e (tr u n e))->n_ (B.map fun x=>(tr u n x).v)=some s->PA X B (nZ X.K s)/\∀e ∈ B,dS e
 | [],s,_,q=>by cases q;exact⟨Ec,fun _ z=>by cases z⟩
 | e::B,s,g,q=>by
  obtain⟨f,k,t⟩:=aw q;obtain⟨r,p,rfl⟩:=aA t;obtain⟨c,m⟩:=gp (fun x a=>g x (bg _ a)) p;have k:(tr u n e).v=some f:=k;have b:dS e:=bE (.inl (by rw [k];rfl));refine⟨B_ ((g e List.mem_cons_self).v f k) c (b _ _),fun x a=>?_⟩;rcases az.mp a with a | a
  .subst a;exact b
  .exact m x a
omit h in
theorem kt {u:Cn}{n:Nat}:∀{B:Ab}{s:n0},(∀e ∈ B,Good X e (tr u n e))->wI (B.map fun x=>(tr u n x).e)=some s->PA X B (wJ X.K s)/\∀e ∈ B,dS e
 | [],s,_,q=>by cases q;exact⟨GR,fun _ z=>by cases z⟩
 | e::B,s,g,q=>by
  obtain⟨f,k,t⟩:=aw q;obtain⟨r,p,rfl⟩:=aA t;obtain⟨c,m⟩:=kt (fun x a=>g x (bg _ a)) p;have k:(tr u n e).e=some f:=k;have b:dS e:=bE (.inr (by rw [k];rfl));refine⟨D2 ((g e List.mem_cons_self).e f k) c (b _ _),fun x a=>?_⟩;rcases az.mp a with a | a
  .subst a;exact b
  .exact m x a
omit h in
theorem rY {o:BoolOp}{E:Pos}{u:Cn}{n:Nat}:∀{B:Ab}{f:EB},(∀e ∈ B,Good X e (tr u n e))->r9 o (B.map fun x=>(tr u n x).b)=some f->PW X (.BoolOp o B E) (tQ X.K f)
 | [],f,_,q=>by cases q
 | [a],f,g,q=>by
  cases o with
  | And=>exact ER ((g a List.mem_cons_self).b f q)
  | Or=>exact Io ((g a List.mem_cons_self).b f q)
 | a::b::B,f,g,q=>by
  obtain⟨x,s,c⟩:=aw q;obtain⟨r,m,rfl⟩:=aA c;have i:=rY (B:=b::B) (E:=E) (fun x k=>g x (bg _ k)) m;cases o with
  | And=>exact Ir ((g a List.mem_cons_self).b x s) i
  | Or=>exact Kt ((g a List.mem_cons_self).b x s) i
omit h in
theorem rZ {o:BoolOp}{E:Pos}{u:Cn}{n:Nat}:∀{B:Ab}{f:EB},(∀e ∈ B,Good X e (tr u n e))->r9 o (B.map fun x=>(tr u n x).w)=some f->PE X (.BoolOp o B E) (tV X.K (vB f))
 | [],f,_,q=>by cases q
 | [a],f,g,q=>E4 ((g a List.mem_cons_self).w f q)
 | a::b::B,f,g,q=>by
  obtain⟨x,s,c⟩:=aw q;obtain⟨r,m,rfl⟩:=aA c;have i:=rZ (B:=b::B) (E:=E) (fun x k=>g x (bg _ k)) m;cases o with
  | And=>exact IJ ((g a List.mem_cons_self).w x s) i
  | Or=>exact Ku ((g a List.mem_cons_self).w x s) i
omit h in
theorem x3 {u:Cn}{n:Nat}{o:Option Expr}{f:EO} (g:∀e,Good X e (tr u n e)) (q:IQ (o.map fun y=>(tr u n y).v)=some f):PO X o (tO X.K f):=by
 cases o with
 | none=>cases q;exact Dp
 | some e=>obtain⟨x,a,rfl⟩:=aA (show ((tr u n e).v).map gm=some f from q);exact Do ((g e).v x a)
theorem D9 (q:Kj s=some g):my X (binaryOp s) g:=by cases s <;> first | (cases q;exact Dk) | (cases q;exact FQ) | (cases q;exact Dj) | (cases q;exact A0) | (cases q;exact FU) | (cases q;exact FR) | cases q
omit h in
theorem lF (q:G4 s=some g):my X (compareOp s) g:=by cases s <;> first | (cases q;exact Jm) | (cases q;exact Jn) | (cases q;exact Jo) | (cases q;exact Jp) | cases q
theorem wj (q:G3 s=some g):ik X (compareOp s) (rE X.K g):=by cases s <;> first | (cases q;exact FZ h.hu) | (cases q;exact FS h.hu) | (cases q;exact FX h.hu) | (cases q;exact FW) | (cases q;exact yP) | cases q
omit h in
theorem tJ (b:Expr) (q:G4 s=some g):behindInMarks s b=false:=by cases s <;> first | exact Dq b | cases q
omit h in
theorem vL (q:(tr u n b).e.isSome=true):behindInMarks s b=false:=by
 cases n with
 | zero=>cases q
 | succ n=>cases b <;> first | rfl | cases q
omit h in
theorem sH (q:(tr u n c).v.isSome=true):lastMarks [k,s] [b,c]=false:=by
 cases n with
 | zero=>cases q
 | succ n=>cases c <;> first | rfl | cases q
theorem Bv (m:u.F f=some g) (r:dt u.ks f [.globalImplicit]=true) (q:iD f=true) (x:PA X (a::Q) (nZ X.K s)) (n:∀e ∈ a::Q,dS e) :
  PE X (.Call (.Name f U) (a::Q) [] E) (tV X.K (af (pureOf g) s)):=by
 obtain⟨k,d,w,i,G,v,t,p,b⟩:=h.fns f g m;exact E3 (FnOk.pure G) v (h.gl r) t p b x (fA q).1 (n a List.mem_cons_self _ _) (iR fun e c=>n e (bg _ c))
theorem tS (v:u.F f=some g) (m:dt u.ks f [.globalImplicit]=true) (t:iD f=true) (b:PA X (a::Q) (wJ X.K s)) (n:∀e ∈ a::Q,dS e) :
  PE X (.Call (.Name f U) (a::Q) [] E) (tV X.K (cB g s))/\PE X (.Call (.Name f U) (a::Q) [] E) (tE X.K (fC g s)):=by
 obtain⟨k,d,w,i,G,q,r,p,c⟩:=h.fns f g v;exact⟨Af G q (h.gl m) r p c b (fA t).1 (n a List.mem_cons_self _ _) (iR fun e x=>n e (bg _ x)),
  Cp G q (h.gl m) r p c b (fA t).1 (n a List.mem_cons_self _ _) (iR fun e x=>n e (bg _ x))⟩
theorem D_ (x:zT f=some g) (k:dt u.ks f [.globalImplicit]=true) (n:PA X (a::Q) (nZ X.K c)) (b:∀e ∈ a::Q,dS e) :
  PE X (.Call (.Name f U) (a::Q) [] E) (tV X.K (af g c)):=by
 have s:=b a List.mem_cons_self Q X.env;have p:=iR (J:=X.env) (E:=E) fun e s=>b e (bg _ s);unfold zT at x;split at x
 .rename_i e;subst e;cases x;exact Cf (h.gl k) (h.blt _ (by decide)) n s p
 split at x
 .rename_i e;subst e;cases x;exact Ce (h.gl k) (h.blt _ (by decide)) n s p
 split at x
 .rename_i e;subst e;cases x;exact Ad (h.gl k) (h.blt _ (by decide)) n s p
 split at x
 .rename_i e;subst e;cases x;exact EU (h.gl k) (h.blt _ (by decide)) n s p
 split at x
 .rename_i e;subst e;cases x;exact ET (h.gl k) (h.blt _ (by decide)) n h.calm s p
 .cases x
theorem DT (t:zc s=some T) (n:dt u.ks ("isinstance":Str) [.globalImplicit]=true) (k:dt u.ks s [.globalImplicit]=true) (x:PE X a (tE X.K c)) (r:dS a) :
  PE X (.Call (.Name "isinstance" U) [a,.Name s b] [] E) (tV X.K (ui T c)):=by
 have f:starEach [a,.Name s b] X.env=[(false,eval a X.env),(false,eval (.Name s b) X.env)]:=by rw [r];rfl
 have m:=h.blt ("isinstance":Str) (by decide);unfold zc at t;split at t
 .rename_i e;subst e;cases t;exact EN y8 (h.gl n) m (h.gl k) (h.blt _ (by decide)) PyProof.Rows.boot_bool x (by decide) (by decide) f
 split at t
 .rename_i e;subst e;cases t;exact EN y7 (h.gl n) m (h.gl k) (h.blt _ (by decide)) t4 x (by decide) (by decide) f
 .cases t
omit h in
theorem mL (q:sO u f g=true):f=g/\dt u.ks f [.globalImplicit]=true:=by unfold sO at q;rw [Bool.and_eq_true] at q;exact⟨of_decide_eq_true q.1,q.2⟩
theorem BZ {n:Nat}{O e:Expr}{f:gj} (g:∀x,Good X x (tr u n x)) (q:x5 u (fun x=>tr u n x) O e=some f):PI X O e (tI X.K f):=by
 have plain:((tr u n e).v.map g6=some f)->PI X O e (tI X.K f):=fun q=>by obtain⟨x,s,rfl⟩:=aA q;exact iS ((g e).v x s)
 unfold x5 at q;split at q
 .rename_i c U k E;split at q
  .rename_i r;obtain⟨rfl,r⟩:=mL r;have b:=h.gl r;have m:=h.blt ("range":Str) (by decide);split at q
   .rename_i a;obtain⟨x,s,rfl⟩:=aA q;exact KW b m ((g a).v x s) (bE (.inl (by rw [s];rfl)) _ _)
   .cases q
  .split at q
   .rename_i r;obtain⟨rfl,r⟩:=mL r;split at q
    .rename_i a;split at q
     .rename_i t;obtain⟨x,s,rfl⟩:=aA q;cases O <;> first | (cases t;done) | skip
      exact iE (h.gl r) (h.blt ("enumerate":Str) (by decide)) ((g a).v x s) (bE (.inl (by rw [s];rfl)) _ _)
     .cases q
    .cases q
   .exact plain q
 .cases q
 .exact plain q
omit h in
theorem wz (q:uf u f a=some (b,c)):f="dict"/\∃r p x,a=.Call (.Name r p) [b,c] [] x/\sO u r "zip"=true:=by
 unfold uf at q;split at q
 .rename_i r p s n x;split at q
  .rename_i e;cases q;rw [Bool.and_eq_true] at e;exact⟨of_decide_eq_true e.1,r,p,x,rfl,e.2⟩
  .cases q
 .cases q
omit h in
theorem y0 (q:y1 u f a=some b):f="list"/\∃r p c,a=.Call (.Name r p) [b] [] c/\sO u r "range"=true:=by
 unfold y1 at q;split at q
 .rename_i r p e c;split at q
  .rename_i x;rw [Bool.and_eq_true] at x;cases q;exact⟨of_decide_eq_true x.1,r,p,c,rfl,x.2⟩
  .cases q
 .cases q
omit h in
theorem sM (q:x5 u T O e=some f) (J:Env) (x:Value):foldedSetIterable e J x=pure x:=by cases e <;> first | rfl | cases q
theorem zU (q:u_ u j Y p n=true):BlockOk X j Y p n:=by
 unfold u_ at q;simp only [Bool.and_eq_true] at q;obtain⟨⟨⟨⟨⟨⟨f,b⟩,c⟩,m⟩,r⟩,v⟩,d⟩:=q;have s:u.N=Y.take u.N.length:=of_decide_eq_true r;refine⟨of_decide_eq_true f,fun x a=>?_,fun x a l=>?_,fun x a l=>?_,?_,?_,fun x a l i k=>?_⟩
 .simpa using bQ.mp b x a
 .have:=bQ.mp c x a;rw [l] at this;simpa using this
 .have:=bQ.mp m x a;rw [l] at this;have t:j.names.lookup x.1=some .free/\(u.ks.lookup x.1=some .cell\/u.ks.lookup x.1=some .free):=by simpa using this
  refine⟨t.1,?_⟩;unfold Env.kindOf;rw [h.ks];exact t.2
 .rw [h.hN];exact s
 .rw [h.hN];exact of_decide_eq_true v
 .have:=bQ.mp d x a;rw [l] at this;have e:kC u.N x.1=some i:=lP (by rw [<- h.hN];exact h.nd) (by rw [<- h.hN];exact k);rw [e] at this;simpa using this
end
theorem BW {X:Cx}{N:LS}{s:List (Str×NameKind)}{k:List NameKind}{e:Expr}{g:iY} (n:X.N=N) (d:X.N.Nodup) (f:∀x,dt s x k=true->L2.Loc X.env.scope x/\(X.fn x=true\/X.env.scope.names.lookup x=some .local)) (q:Aq N s k e=some g):DU e=true/\PG X e (gT X.K g):=by
 unfold Aq at q;split at q
 .split at q
  .rename_i c;obtain⟨i,b,rfl⟩:=aA q;obtain⟨h,a⟩:=f _ c;exact⟨rfl,DX i d (by rw [n];exact ny b) h a⟩
  .cases q
 .cases q
theorem tg_ok {X:Cx}{N:LS}{h:List (Str×NameKind)}{k:List NameKind}{e:Expr}{g:iY} (m:X.calm=true) (n:X.N=N) (d:X.N.Nodup) (f:∀x,dt h x k=true->L2.Loc X.env.scope x/\(X.fn x=true\/X.env.scope.names.lookup x=some .local)) (q:xZ N h k e=some g):PG X e (gT X.K g):=by
 have all:∀{B:Ab}{s:List iY},x4 N h k B=some s->GsOk X B s:=by
  intro B;induction B with
  | nil=>intro s q;cases q;exact .nil
  | cons e B i=>intro s q;obtain⟨g,a,q⟩:=aw q;obtain⟨r,t,rfl⟩:=aA q;obtain⟨b,c⟩:=BW n d f a;exact .cons b c (i t)
 unfold xZ at q;split at q
 .obtain⟨s,a,rfl⟩:=aA q;exact DW m (all a)
 .exact (BW n d f q).2
variable {j:Scope}
theorem yp (h:J.scope.kind=.function):(relabel j J).names=oX j.names J.scope.names:=by unfold relabel oX Env.kindOf;rw [h];simp
variable {X:Cx}{Y:LS}{p:List Nat}
theorem XOk.inn (h:XOk u X) (B:BlockOk X j Y p n) (d:Y.Nodup) (s:Shared) (H:Hp) (C:Addr) (U:List Addr) :
  XOk ⟨Y,[],[],u.refs,oX j.names u.ks,u.F,u.G,u.A,u.M,u.I⟩ (Ev.inn X j Y s H C U) where
 hN:=rfl
 nd:=d
 ks:=by show (relabel j X.env).names=_;rw [yp h.kd,h.ks]
 kd:=B.kind
 calm:=h.calm
 hu:=h.hu
 fns:=h.fns
 blt:=h.blt
 glb:=h.glb
 attrs:=h.attrs
 meths:=h.meths
 mks:=h.mks
theorem nU (B:BlockOk X j Y p n) (I:Inv X q w H s):closureFor j X.env=pure (lG j X.env):=by
 have all:∀x ∈ j.names,x.2=.free->∃c,X.env.cells.lookup x.1=some c:=fun x d e=>I.ok.has x.1 (B.fr x d e).2;unfold closureFor lG;have b:∀(l:List (Str×NameKind)) (a:List (Str×Addr)),(∀x ∈ l,x.2=.free->∃c,X.env.cells.lookup x.1=some c) ->
   (forIn l a fun (x:Str×NameKind) (r:List (Str×Addr))=>(do
    if x.2 == .free then do
     let c <- cellOf X.env x.1
     pure (ForInStep.yield ((x.1,c)::r))
    else pure (ForInStep.yield r):Sem (ForInStep (List (Str×Addr)))))=pure ((((l.filter fun x=>x.2 == .free).map fun x=>(x.1,(X.env.cells.lookup x.1).getD 0)).reverse)++a):=by
  intro l;induction l with
  | nil=>intro a _;rfl
  | cons x l i=>
   intro a e;rw [List.forIn_cons];by_cases h:(x.2 == NameKind.free)=true
   .obtain⟨c,m⟩:=e x List.mem_cons_self (by simpa using h);rw [if_pos h,t8 (p:=fun (x:Str×NameKind)=>x.2 == .free) h,List.map_cons,List.reverse_cons,List.append_assoc];have v:cellOf X.env x.1=pure c:=by unfold cellOf;rw [m]
    rw [v,m];show (forIn l ((x.1,c)::a) _:Sem _)=_;rw [i ((x.1,c)::a) fun y f=>e y (bg _ f)];rfl
   .rw [if_neg h,t6 (p:=fun (x:Str×NameKind)=>x.2 == .free) h];show (forIn l a _:Sem _)=_;rw [i a fun y f=>e y (bg _ f)]
 have k:=b j.names [] all;rw [List.append_nil] at k;show (Bind.bind (forIn j.names [] fun (x:Str×NameKind) (r:List (Str×Addr))=>(do
    if x.2 == .free then do
     let c <- cellOf X.env x.1
     pure (ForInStep.yield ((x.1,c)::r))
    else pure (ForInStep.yield r):Sem (ForInStep (List (Str×Addr))))) fun t=>pure t:Sem (List (Str×Addr)))=_
 rw [k];rfl
variable {O:Expr}
theorem Cm (B:BlockOk X j Y p n) (h:X.calm=true)
  (m:PI X O iter (tI X.K r)) (f:∀s H C U,PG (inn X j Y s H C U) O (gT X.K g)) (a:∀s H C U,PIfs (inn X j Y s H C U) k c) (e:∀s H C U,PE (inn X j Y s H C U) l (tV X.K b))
  (t:∀x,foldedSetIterable iter X.env x=pure x) :
  PE X (.ListComp l [⟨O,iter,k,0⟩] j E) (tV X.K (aY r p n g c b)):=fun i s v H Q I q=>
 E1 B h m f a e (nU B I) t i s v H Q I q
variable {x:Str}
theorem Cc (i:Nat) (N:X.N.Nodup) (B:BlockOk X j Y p n) (h:X.calm=true)
  (u:PI X O iter (tI X.K d)) (v:∀s H C U,PG (inn X j Y s H C U) O (gT X.K g)) (f:∀s H C U,PIfs (inn X j Y s H C U) k c) (m:∀s H C U,PE (inn X j Y s H C U) l (tV X.K r))
  (w:swapsWith (.ListComp l [⟨O,iter,k,0⟩] j E) (some (.Name x A)) b.line X.env=pure true)
  (y:∀x,foldedSetIterable iter X.env x=pure x) (e:X.N[i]? = some x) (z:L2.Loc X.env.scope x)
  (t:X.fn x=true\/X.env.scope.names.lookup x=some .local) :
  PS X (.Assign [.Name x A] (.ListComp l [⟨O,iter,k,0⟩] j E) b) (kP X.K (ao i (eV (aY d p n g c r)))):=fun a s o H D I q=>
 EM i N B h u v f m (nU B I) w y e z t a s o H D I q
noncomputable def rV (n:Nat):Prop:=∀(u:Cn) (X:Cx),XOk u X->∀e,Good X e (tr u n e)
theorem XOk.own (h:XOk u X) (o:LS):XOk ⟨u.N,o,u.deep,u.refs,u.ks,u.F,u.G,u.A,u.M,u.I⟩ X:=⟨h.hN,h.nd,h.ks,h.kd,h.calm,h.hu,h.fns,h.blt,h.glb,h.attrs,h.meths,h.mks⟩
theorem tL {u:Cn}{X:Cx} (h:XOk u X) {n:Nat} (G:rV n) {l O iter:Expr}{k:Ab}{j:Scope}{f:EV} (q:na u (fun v x=>tr v n x) l O iter k j=some f) :
  ∃Y p m y g d w,BlockOk X j Y p m/\PI X O iter (tI X.K y)/\(∀s H C U,PG (inn X j Y s H C U) O (gT X.K g))/\(∀s H C U,PIfs (inn X j Y s H C U) k d)/\(∀s H C U,PE (inn X j Y s H C U) l (tV X.K w)) /\
   (∀x,foldedSetIterable iter X.env x=pure x)/\f=aY y p m g d w:=by
 unfold na at q;generalize N:u.N++mu u.N (gJ O)=Y at q;generalize K:JM u.N (gJ O)=p at q;generalize E:(mu u.N (gJ O)).length=m at q;split at q
 .rename_i b;rw [Bool.and_eq_true] at b;obtain⟨P,S,q⟩:=aw q;obtain⟨F,A,q⟩:=aw q;obtain⟨c,t,q⟩:=aw q;obtain⟨e,D,rfl⟩:=aA q;have B:BlockOk X j Y p m:=zU h b.1;have o:Y.Nodup:=of_decide_eq_true b.2;have i:=fun s H C U=>(h.inn B o s H C U).own (u.own.filter (fun x=>!(gJ O).contains x))
  refine⟨Y,p,m,P,F,c,e,B,BZ h (G u X h) S,fun s H C U=>?_,fun s H C U=>?_,fun s H C U=>?_,fun x=>sM S _ x,rfl⟩
  .exact tg_ok h.calm rfl o (fun x z=>⟨.inl ((i s H C U).local z),.inr ((i s H C U).local z)⟩) A
  .cases k with
   | nil=>cases t;exact PIfs.none
   | cons a r=>
    cases r with
    | nil=>exact PIfs.one ((G _ _ (i s H C U) a).b c t)
    | cons _ _=>cases t
  .exact (G _ _ (i s H C U) l).v e D
 .cases q
theorem tK {u:Cn}{X:Cx} (h:XOk u X) {n:Nat} (G:rV n) {e O iter:Expr}{a:Ab}{j:Scope}{E:Pos}{f:EV} (q:na u (fun c x=>tr c n x) e O iter a j=some f) :
  PE X (.ListComp e [⟨O,iter,a,0⟩] j E) (tV X.K f)/\∀(i:Nat) {x:Str}{b s:Pos},X.N.Nodup->swapsWith (.ListComp e [⟨O,iter,a,0⟩] j E) (some (.Name x b)) s.line X.env=pure true->X.N[i]? = some x->L2.Loc X.env.scope x->(X.fn x=true\/X.env.scope.names.lookup x=some .local) ->
   PS X (.Assign [.Name x b] (.ListComp e [⟨O,iter,a,0⟩] j E) s) (kP X.K (ao i (eV f))):=by
 obtain⟨Y,p,m,H,S,z,o,B,r,t,v,d,w,rfl⟩:=tL h G q;exact⟨Cm B h.calm r t v d w,fun i x b s N y k l g=>Cc i N B h.calm r t v d y w k l g⟩
variable {o:Expr}
theorem gA (h:nB u n o=true) (a:x≠("__class__":Str)):attributeBase o x J (eval o J)=eval o J:=by
 cases n with
 | zero=>cases h
 | succ n=>
  cases o with
  | Call f Q k p=>
   cases f with
   | Attribute o m q=>rfl
   | _=>cases h
  | _=>first | (cases h;done) | rfl
theorem m_ (h:sf e=some B):∃c p,e=.Tuple B c p:=by
 unfold sf at h;split at h
 .cases h;exact⟨_,_,rfl⟩
 .cases h
variable {Q:Ab}{a:Expr}
theorem yj (h:yk Q=some a):∃p,Q=[a,.List [] p]:=by
 unfold yk at h;split at h
 .cases h;exact⟨_,rfl⟩
 .cases h
variable {m:Str}
theorem qz (h:El u o m s k c=true):m=s/\nB u 4 o=true/\(k.endLine == c.line)=true:=by unfold El at h;simp only [Bool.and_eq_true] at h;exact⟨of_decide_eq_true h.1.1,h.1.2,h.2⟩
theorem hJ (h:xa o=true):attributeBase o x J (eval o J)=eval o J:=by unfold xa at h;split at h;all_goals first | rfl | cases h
theorem Bj (h:∀e ∈ Q,dS e) (l:Q.length < 29):methodCallForm (Q.length+([]:List Keyword).length) (backTo E (starEach Q J)) (backToKw E (keywordEach [] J))=true:=by
 unfold methodCallForm;have a:=iR (J:=J) (E:=E) h;have s:(backTo E (starEach Q J)).all (fun x=>!x.1)=true:=by
  rw [bQ];intro x k;cases b:x.1 with
  | false=>rfl
  | true=>have:(backTo E (starEach Q J)).any (·.1)=true:=i9.mpr ⟨x,k,b⟩;rw [a] at this;cases this
 rw [s];have n:(backToKw E (keywordEach [] J))=[]:=rfl;rw [n];simp;lia
theorem qf (h:XOk u X) (g:∀x,Good X x (tr u n x)):Good X (.Call (.Attribute o m k) r [] b) (Ek u (tr u n o).e o m (r.map fun x=>(tr u n x).e) k b):=by
 unfold Ek;split
 .rename_i c;simp only [Bool.and_eq_true] at c;have l:r.length < 29:=by have:=of_decide_eq_true c.2;rwa [bP] at this
  refine .ofE (fun f q=>?_) fun _ _=>rfl;obtain⟨x,p,q⟩:=aw q;obtain⟨a,v,rfl⟩:=aA q;obtain⟨d,s⟩:=kt (fun e _=>g e) v;have t:=Dr (o:=o) (y:=m) (j:=k) (J:=b) (r:=r) (v:=X.env) (hJ c.1.1) (Bj s l) c.1.2;cases r with
  | nil=>cases v;exact Ch h.meths ((g o).e x p) t
  | cons e B=>exact EW h.meths ((g o).e x p) d (s e List.mem_cons_self _ _) (iR fun y w=>s y (bg _ w)) t
 .exact .no
variable {f:Str}{U:Pos}
theorem A5 (h:XOk u X) (r:u.I f=some g) (t:dt u.ks f [.globalImplicit]=true) (q:iD f=true) (b:PA X (a::Q) (wJ X.K s)) (n:∀e ∈ a::Q,dS e) :
  PE X (.Call (.Name f U) (a::Q) [] E) (tE X.K (pa g f s)):=by
 obtain⟨C,k,d,w,i,x,p,mk,G,v,c⟩:=h.mks f g r;exact EX mk G v (h.gl t) p x c b (fA q).1 (n a List.mem_cons_self _ _) (iR fun e m=>n e (bg _ m))
theorem vr:∀n,rV n
 | 0=>fun u X h e=>Good.no
 | n+1=>by
  have G:=vr n;intro u X h e;have g:=G u X h;unfold tr;split
  .split
   .exact .ofV (fun f q=>by cases q;exact IG) fun _ _=>rfl
   .exact .ofV (fun f q=>by cases q;exact Ky) fun _ _=>rfl
   .exact .ofV (fun f q=>by cases q;exact IA) fun _ _=>rfl
   .exact .ofV (fun f q=>by cases q;exact Ix) fun _ _=>rfl
   .exact .no
  .split
   .rename_i x p m;rw [Bool.and_eq_true] at m;refine .ofE (fun f q=>?_) fun _ _=>rfl
    obtain⟨i,s,rfl⟩:=aA q;exact Iu i (h.get s) (h.vis m.1) (fA m.2).1 (fA m.2).2
   .split
    .rename_i m;rw [Bool.and_eq_true] at m;refine .ofV (fun f q=>?_) fun _ _=>rfl
     obtain⟨v,s,q⟩:=aw q;split at q
     .cases q
     .rename_i hd;cases q;exact EY (h.gl m.1) ((h.glb _ v s).1 (by simpa using hd)) (fA m.2).1
    .exact .no
  .refine .ofV (fun f q=>?_) fun _ _=>rfl;obtain⟨o,s,q⟩:=aw q;obtain⟨x,k,q⟩:=aw q;obtain⟨y,d,rfl⟩:=aA q;exact Kv (D9 h s) ((g _).v x k) ((g _).v y d)
  .split
   .refine .ofV (fun f q=>?_) fun _ _=>rfl;obtain⟨x,s,rfl⟩:=aA q;exact IB ((g _).v x s)
   .refine .ofB (fun f q=>?_) fun f q=>?_
    .obtain⟨x,s,rfl⟩:=aA q;exact Ip ((g _).b x s)
    .obtain⟨x,s,rfl⟩:=aA q;exact Iz ((g _).w x s)
   .exact .no
  .exact .ofB (fun f q=>(rY (fun e _=>g e) q).pt) fun f q=>rZ (fun e _=>g e) q
  .split
   .refine .ofC (fun f q=>?_) fun f q=>?_
    .split at q
     .rename_i Z s;obtain⟨x,k,q⟩:=aw q;obtain⟨y,d,rfl⟩:=aA q;exact II (lF s) ((g _).v x k) ((g _).v y d) (tJ _ s)
     .obtain⟨o,s,q⟩:=aw q;obtain⟨x,k,q⟩:=aw q;obtain⟨y,d,rfl⟩:=aA q;exact E2 (wj h s) ((g _).e x k) ((g _).e y d) (vL (by rw [d];rfl))
    .split at q
     .rename_i Z s;obtain⟨x,k,q⟩:=aw q;obtain⟨y,d,rfl⟩:=aA q;exact Iq (lF s) ((g _).v x k) ((g _).v y d) (tJ _ s)
     .obtain⟨o,s,q⟩:=aw q;obtain⟨x,k,q⟩:=aw q;obtain⟨y,d,rfl⟩:=aA q;exact EQ (wj h s) ((g _).e x k) ((g _).e y d) (vL (by rw [d];rfl))
   .refine .ofC (fun f q=>?_) fun f q=>?_
    .obtain⟨o,s,q⟩:=aw q;obtain⟨o',k,q⟩:=aw q;obtain⟨x,d,q⟩:=aw q;obtain⟨y,V,q⟩:=aw q;obtain⟨z,D,rfl⟩:=aA q;exact Co (lF s) (lF k) ((g _).v x d) ((g _).v y V) ((g _).v z D) (sH (by rw [D];rfl))
    .obtain⟨o,s,q⟩:=aw q;obtain⟨o',k,q⟩:=aw q;obtain⟨x,d,q⟩:=aw q;obtain⟨y,V,q⟩:=aw q;obtain⟨z,D,rfl⟩:=aA q;exact Cd (lF s) (lF k) ((g _).v x d) ((g _).v y V) ((g _).v z D) (sH (by rw [D];rfl))
   .exact .no
  .rename_i c a b p;have O:∀f,((tr u n c).b.bind fun q=>(tr u n a).v.bind fun x=>(tr u n b).v.map fun y=>BJ q x y)=some f->PE X (.IfExp c a b p) (tV X.K f):=fun f q=>by
    obtain⟨o,s,q⟩:=aw q;obtain⟨x,k,q⟩:=aw q;obtain⟨y,d,rfl⟩:=aA q;exact Kx ((g _).b o s) ((g _).v x k) ((g _).v y d)
   refine⟨O,fun f q=>?_,fun f q=>(by cases q),fun f q=>?_⟩
   .obtain⟨x,s,rfl⟩:=aA (show Option.map eV _=some f from q);exact Eh (O _ s)
   .obtain⟨x,s,rfl⟩:=aA (show Option.map bV _=some f from q);exact vg (O _ s)
  .refine .ofV (fun f q=>?_) fun _ _=>rfl;obtain⟨x,s,rfl⟩:=aA q;exact Iw (gp (fun e _=>g e) s).1
  .refine .ofV (fun f q=>?_) fun _ _=>rfl;obtain⟨x,s,rfl⟩:=aA q;exact IC (gp (fun e _=>g e) s).1
  .split
   .exact⟨fun f q=>(by cases q;exact Iv xR),fun f q=>(by cases q;exact xR),fun f q=>(by cases q),fun f q=>(by cases q)⟩
   .exact .no
  .split
   .split
    .exact .no
    .rename_i st _ N;cases st with
     | some _=>exact absurd rfl N
     | none=>refine .ofV (fun f q=>?_) fun _ _=>rfl;obtain⟨x,s,q⟩:=aw q;obtain⟨y,k,q⟩:=aw q;obtain⟨z,d,rfl⟩:=aA q;exact Iy ((g _).v x s) (x3 g k) (x3 g d)
   .split
    .split
     .rename_i L;obtain⟨c,p,rfl⟩:=m_ L;refine .ofE (fun f q=>?_) fun _ _=>rfl
      obtain⟨x,s,q⟩:=aw q;obtain⟨y,k,rfl⟩:=aA q;exact IE (by have:=h.hu;lia) ((g _).e x s) (gp (fun e _=>g e) k).1 fun _ _=>rfl
     refine .ofE (fun f q=>?_) fun _ _=>rfl;obtain⟨x,s,q⟩:=aw q;obtain⟨y,k,rfl⟩:=aA q;exact IF (by have:=h.hu;lia) ((g _).e x s) ((g _).v y k) (np (by rw [k];rfl))
    .refine .ofV (fun f q=>?_) fun _ _=>rfl;obtain⟨x,s,q⟩:=aw q;obtain⟨y,k,rfl⟩:=aA q;exact Kw (by have:=h.hu;lia) ((g _).v x s) ((g _).v y k) (np (by rw [k];rfl))
  .rename_i fn w kws cp;split
   .exact .no
   .split
    .rename_i f U;split
     .rename_i m;rw [Bool.and_eq_true] at m;split
      .rename_i gf E;split
       .exact .no
       .rename_i S j;refine .ofE (fun f q=>?_) fun _ _=>rfl
        obtain⟨x,s,rfl⟩:=aA q;obtain⟨l,H⟩:=kt (fun e _=>g e) s;cases w with
        | nil=>exact absurd rfl j
        | cons a Q=>exact A5 h E m.1 m.2 l H
      split
      .rename_i gf E;split
       .exact .no
       .rename_i S j;split
        .refine .ofV (fun f q=>?_) fun _ _=>rfl;obtain⟨x,s,rfl⟩:=aA q;obtain⟨l,H⟩:=kt (fun e _=>g e) s;cases w with
         | nil=>exact absurd rfl j
         | cons a Q=>exact (tS h E m.1 m.2 l H).1
        .refine .ofV (fun f q=>?_) fun _ _=>rfl;obtain⟨x,s,rfl⟩:=aA q;obtain⟨l,H⟩:=gp (fun e _=>g e) s;cases w with
         | nil=>exact absurd rfl j
         | cons a Q=>exact Bv h E m.1 m.2 l H
      .split
       .exact .no
       .rename_i a;split
        .rename_i C;subst C;refine .ofV (fun f q=>?_) fun _ _=>rfl
         obtain⟨x,s,rfl⟩:=aA q;exact ID (h.gl m.1) (h.blt _ (by decide)) ((g _).e x s) (bE (.inr (by rw [s];rfl)) _ _)
        .split
         .rename_i C;subst C;refine .ofV (fun f q=>?_) fun _ _=>rfl
          obtain⟨x,s,rfl⟩:=aA q;exact xQ (h.gl m.1) (h.blt _ (by decide)) ((g _).e x s) (bE (.inr (by rw [s];rfl)) _ _)
         .split
          .rename_i b M;obtain⟨rfl,r,p2,Y,rfl,P⟩:=y0 M;refine .ofV (fun f q=>?_) fun _ _=>rfl
           obtain⟨x,s,rfl⟩:=aA q;obtain⟨rfl,P⟩:=mL P;exact Ae h.calm (h.gl m.1) (h.blt _ (by decide)) (h.gl P) (h.blt _ (by decide)) ((g _).v x s) (bE (.inl (by rw [s];rfl)) _ _)
          .split
           .rename_i z M;obtain⟨b,c⟩:=z;obtain⟨rfl,r,p2,Y,rfl,P⟩:=wz M;refine .ofE (fun f q=>?_) fun _ _=>rfl
            obtain⟨x,s,q⟩:=aw q;obtain⟨y,k,rfl⟩:=aA q;obtain⟨rfl,P⟩:=mL P;have A:dS b:=bE (.inl (by rw [s];rfl));have R:dS c:=bE (.inl (by rw [k];rfl));have I:starEach [c] X.env=[(false,eval c X.env)]:=R _ _;exact Cj h.calm (h.gl m.1) (h.blt _ (by decide)) (h.gl P) (h.blt _ (by decide)) ((g _).v x s) ((g _).v y k) (by rw [A,I]) I PyProof.Rows.boot_zip
           refine .ofV (fun f q=>?_) fun _ _=>rfl;obtain⟨o,s,q⟩:=aw q;obtain⟨x,k,rfl⟩:=aA q;obtain⟨l,H⟩:=gp (B:=[a]) (fun e _=>g e) k;exact D_ h s m.1 l H
       .rename_i a t tp;split
        .rename_i C;subst C;split
         .rename_i ht;split
          .rename_i T s;refine .ofV (fun f q=>?_) fun _ _=>rfl
           obtain⟨x,k,rfl⟩:=aA q;exact DT h s m.1 ht ((g _).e x k) (bE (.inr (by rw [k];rfl)))
          .exact .no
         .exact .no
        .exact .no
       .exact .no
     .exact .no
    .split
     .split
      .rename_i m;obtain⟨rfl,F,K⟩:=qz m;refine .ofE (fun f q=>?_) fun _ _=>rfl
       obtain⟨x,s,q⟩:=aw q;obtain⟨y,k,rfl⟩:=aA q;exact Ai ((g _).e x s) ((g _).e y k) (bE (.inr (by rw [k];rfl)) _ _) (gA F (by decide)) K
      .split
       .rename_i m;obtain⟨rfl,F,K⟩:=qz m;refine .ofE (fun f q=>?_) fun _ _=>rfl
        obtain⟨x,s,q⟩:=aw q;obtain⟨y,k,rfl⟩:=aA q;exact Ah ((g _).e x s) ((g _).v y k) (bE (.inl (by rw [k];rfl)) _ _) (gA F (by decide)) K
       .split
        .rename_i m;simp only [Bool.and_eq_true] at m;have J:=of_decide_eq_true m.1.1;subst J;refine .ofV (fun f q=>?_) fun _ _=>rfl
         obtain⟨x,s,q⟩:=aw q;obtain⟨y,k,rfl⟩:=aA q;exact Ci h.hu ((g _).v x s) ((g _).v y k) (bE (.inl (by rw [k];rfl)) _ _) (hJ m.1.2) m.2
        .split
         .rename_i L;obtain⟨c,p,rfl⟩:=m_ L;split
          .rename_i m;obtain⟨rfl,F,K⟩:=qz m;refine .ofE (fun f q=>?_) fun _ _=>rfl
           obtain⟨x,s,q⟩:=aw q;obtain⟨y,k,rfl⟩:=aA q;exact EZ (by have:=h.hu;lia) ((g _).e x s) (gp (fun e _=>g e) k).1 ⟨gA F (by decide),rfl,K,rfl⟩
          .exact qf h g (r:=[_])
         .exact qf h g (r:=[_])
     .rename_i w _ _;split
      .rename_i m;simp only [Bool.and_eq_true] at m;have J:=of_decide_eq_true m.1.1;subst J;split
       .rename_i a b _;refine .ofV (fun f q=>?_) fun _ _=>rfl
        obtain⟨x,s,q⟩:=aw q;obtain⟨y,k,q⟩:=aw q;obtain⟨z,d,rfl⟩:=aA q;have A:dS a:=bE (.inl (by rw [k];rfl));have R:dS b:=bE (.inl (by rw [d];rfl));have I:starEach [b] X.env=[(false,eval b X.env)]:=R _ _;have W:starEach [a,b] X.env=[(false,eval a X.env),(false,eval b X.env)]:=by rw [A,I]
        exact Cg (by have:=h.hu;lia) ((g _).v x s) ((g _).v y k) ((g _).v z d) ⟨hJ m.1.2,by rw [W];rfl,m.2,by rw [W];rfl⟩
       .exact .no
      .split
       .rename_i B;obtain⟨p,rfl⟩:=yj B;split
        .rename_i m;obtain⟨rfl,F,K⟩:=qz m;refine .ofE (fun f q=>?_) fun _ _=>rfl
         obtain⟨x,s,q⟩:=aw q;obtain⟨y,k,rfl⟩:=aA q;have A:dS _:=bE (.inl (by rw [k];rfl));exact Ag ((g _).e x s) ((g _).v y k) (BH Ec) ⟨gA F (by decide),by rw [A];rfl,K,by rw [A];rfl⟩
        .exact qf h g
       .exact qf h g
    .exact .no
  .split
   .rename_i m;refine .ofE (fun f q=>?_) fun _ _=>rfl
    obtain⟨x,s,rfl⟩:=aA q;exact IH h.attrs ((g _).e x s) (hJ m)
   .exact .no
  .split
   .refine .ofV (fun f q=>?_) fun _ _=>rfl;exact (tK h G q).1
   .exact .no
  .exact .no
theorem x6 (h:XOk u X) (n:Nat):∀(k:Nat) {e:Expr}{f:EE},E_ u n k e=some f->PE X e (tE X.K f)
 | k,e,f,q=>by
  have g:=vr n u X h;unfold E_ at q;split at q
  .rename_i v U r p;split at q
   .rename_i c;simp only [Bool.and_eq_true] at c;split at q
    .rename_i d m;obtain⟨x,t,rfl⟩:=aA q;obtain⟨s,b⟩:=kt (fun e _=>g e) t;cases r with
     | nil=>simp at c
     | cons a Q=>exact (tS h m c.1.1.1 c.1.1.2 s b).2
    .exact (g _).e f q
   .exact (g _).e f q
  .exact (g _).e f q
noncomputable def um (T:Stmt->Option ES):List Stmt->Option ES
 | []=>some eW
 | [s]=>T s
 | s::r=>(T s).bind fun f=>(um T r).map fun g=>ae f g
noncomputable def B2:Expr->Option (Ab)
 | .List B _=>some B
 | _=>none
noncomputable def j8:Expr->Bool
 | .ListComp ..=>true
 | _=>false
noncomputable def DV:Expr->Bool
 | .Dict [] [] _=>true
 | _=>false
theorem Bf (h:DV e=true):∃p,e=.Dict [] [] p:=by
 unfold DV at h;split at h
 .exact⟨_,rfl⟩
 .cases h
theorem jw (h:j8 e=false):∀a b c d,e≠.ListComp a b c d:=fun a b c d z=>by subst z;cases h
noncomputable def Cz (u:Cn):Nat->Stmt->Option ES
 | 0,_=>none
 | n+1,st=>match st with
  | .Assign p v _=>match p with
   | [t]=>(match t with
   | .Name x _=>if dt u.ks x [.local,.cell]=true then (kC u.N x).bind fun i=>if (u.deep.contains x && !j8 v)=true then (E_ u n 5 v).map (ao i) else match B2 v with
    | some B=>if u.own.contains x=true then (n_ (B.map fun y=>(tr u n y).v)).map fun a=>ao i (cy a) else (tr u n v).e.map (ao i)
    | none=>(tr u n v).e.map (ao i)
   else none
   | .Subscript o i _=>(match sf i with
   | some B=>(tr u n o).e.bind fun x=>(n_ (B.map fun z=>(tr u n z).v)).bind fun y=>if j8 v=true then none else (tr u n v).v.map fun z=>vA x y z
   | none=>(tr u n o).e.bind fun x=>(tr u n i).v.bind fun y=>if j8 v=true then none else (tr u n v).v.map fun z=>fm x y z)
   | .Attribute o f _=>if (DV v && u.deep.contains f)=true then (tr u n o).e.map fun x=>ku u.A x f qS else if j8 v=true then none else (tr u n o).e.bind fun x=>(E_ u n 5 v).map fun z=>ku u.A x f z
   | .Tuple B c h=>if (j8 v || ze v)=true then none else (xZ u.N u.ks [.local,.cell] (.Tuple B c h)).bind fun g=>(tr u n v).v.map fun z=>qo g z
   | _=>none)
   | _=>none
  | .Return r _=>r.bind fun e=>(tr u n e).e.map aO
  | .Expr e _=>if j8 e=true then none else (tr u n e).e.map bL
  | .If c a b _=>(tr u n c).b.bind fun q=>(um (Cz u n) a).bind fun x=>(um (Cz u n) b).map fun y=>eO q x y
  | .For O iter d l _=>if l.isEmpty=false then none else (xZ u.N u.ks [.local,.cell] O).bind fun g=>(x5 u (fun y=>tr u n y) O iter).bind fun s=>(um (Cz u n) d).map fun b=>cb s g b
  | _=>none
theorem jd {v:Expr}{t:Option Expr}{line:Nat}{J:Env} (h:∀a b c d,v≠.ListComp a b c d) (x:∀a b c d,v≠.SetComp a b c d) (s:∀a b c d e,v≠.DictComp a b c d e):swapsWith v t line J=pure false:=by cases v <;> first | rfl | exact absurd rfl (h _ _ _ _) | exact absurd rfl (x _ _ _ _) | exact absurd rfl (s _ _ _ _ _)
theorem sB (h:(tr u n e).e.isSome=true):(∀a b c d,e≠.SetComp a b c d)/\∀a b c d f,e≠.DictComp a b c d f:=by
 cases n with
 | zero=>cases h
 | succ n=>exact⟨fun a b c d z=>(by subst z;cases h),fun a b c d f z=>(by subst z;cases h)⟩
theorem IK {u:Cn}{n:Nat}{e:Expr}{f:EV} (h:(tr u n e).v=some f) (l:∀a b c d,e≠.ListComp a b c d):(∀a b c d,e≠.SetComp a b c d)/\∀a b c d g,e≠.DictComp a b c d g:=by
 cases n with
 | zero=>cases h
 | succ n=>exact⟨fun a b c d z=>(by subst z;cases h),fun a b c d f z=>(by subst z;cases h)⟩
theorem BM {u:Cn}{n k:Nat}{e:Expr}{f:EE} (h:E_ u n k e=some f):(∀a b c d,e≠.SetComp a b c d)/\∀a b c d g,e≠.DictComp a b c d g:=by
 cases n with
 | zero=>exact⟨fun a b c d z=>(by subst z;cases h),fun a b c d f z=>(by subst z;cases h)⟩
 | succ n=>exact⟨fun a b c d z=>(by subst z;cases h),fun a b c d f z=>(by subst z;cases h)⟩
theorem sr (h:(tr u n e).v.isSome=true):nX e:=by
 intro o E J v;cases n with
 | zero=>cases h
 | succ n=>cases e <;> first | rfl | cases h
theorem yQ (h:ze l=false):swappedStores [.Tuple B c s] l J=pure none:=by cases l <;> first | rfl | cases h
theorem Ap {u:Cn}{n:Nat}{e:Expr}{g:List Comprehension}{j:Scope}{E:Pos}{f:EE} (h:(tr u n (.ListComp e g j E)).e=some f) :
  ∃k O iter i s,n=k+1/\g=[⟨O,iter,i,0⟩]/\na u (fun a x=>tr a k x) e O iter i j=some s/\f=eV s:=by
 cases n with
 | zero=>cases h
 | succ n=>
  unfold tr at h;dsimp only at h;split at h
  .obtain⟨x,q,rfl⟩:=aA (show Option.map eV _=some f from h);exact⟨n,_,_,_,x,rfl,rfl,q,rfl⟩
  .cases h
theorem kr (h:∀st f,T st=some f->PS X st (kP X.K f)):∀{a:List Stmt}{f:ES},um T a=some f->mx X a (kP X.K f)
 | [],f,q=>by cases q;exact Il
 | [s],f,q=>Ik (h s f q)
 | s::t::r,f,q=>by obtain⟨x,e,q⟩:=aw q;obtain⟨y,n,rfl⟩:=aA q;exact EL (h s x e) (kr h n)
theorem x2 {u:Cn}{X:Cx} (h:XOk u X) (r:∀x,X.fn x=true) (R:PassesOwn (model X.prog X.w) X.A X.env X.xe):∀n (st:Stmt) (f:ES),Cz u n st=some f->PS X st (kP X.K f)
 | 0,st,f,q=>by cases q
 | n+1,st,f,q=>by
  have J:=x2 h r R n;have g:=vr n u X h;unfold Cz at q;split at q
  .split at q
   .split at q
    .rename_i v K _ _ x A;split at q
     .rename_i P;obtain⟨i,qi,q⟩:=aw q;split at q
      .rename_i hd;rw [Bool.and_eq_true] at hd;obtain⟨M,s,rfl⟩:=aA q;obtain⟨t,w⟩:=BM s;exact Ac i h.nd (x6 h n 5 s) (h.get qi) (h.loc P) (jd (jw (by simpa using hd.2)) t w) (.inl (r x))
      have plain:(tr u n v).e.map (ao i)=some f->PS X (.Assign [.Name x A] v K) (kP X.K f):=fun q=>by
       obtain⟨M,s,rfl⟩:=aA q;by_cases Q:∃a b c d,v=.ListComp a b c d
       .obtain⟨a,b,c,d,rfl⟩:=Q;obtain⟨k,O,iter,F,Y,rfl,rfl,j,rfl⟩:=Ap s;have L:=tK (E:=d) h (vr k) j;have C:swapsWith (.ListComp a [⟨O,iter,F,0⟩] c d) (some (.Name x A)) K.line X.env=pure (X.env.blockKind == .function && X.env.kindOf x == some .local && A.line == (Expr.ListComp a [⟨O,iter,F,0⟩] c d).pos.line
         && !(c.names.any fun (n,k)=>n == x && (k == .local || k == .cell))):=rfl
        cases N:(X.env.blockKind == .function && X.env.kindOf x == some .local && A.line == (Expr.ListComp a [⟨O,iter,F,0⟩] c d).pos.line && !(c.names.any fun (n,k)=>n == x && (k == .local || k == .cell))) with
        | true=>rw [N] at C;exact L.2 i h.nd C (h.get qi) (h.loc P) (.inl (r x))
        | false=>rw [N] at C;exact Ac i h.nd (Eh L.1) (h.get qi) (h.loc P) C (.inl (r x))
       .have l:∀a b c d,v≠.ListComp a b c d:=fun a b c d z=>Q ⟨a,b,c,d,z⟩;obtain⟨t,w⟩:=sB (show (tr u n v).e.isSome=true by rw [s];rfl);exact Ac i h.nd ((g v).e M s) (h.get qi) (h.loc P) (jd l t w) (.inl (r x))
      split at q
      .rename_i B S;split at q
       .obtain⟨a,s,rfl⟩:=aA q;unfold B2 at S;split at S
        .cases S;exact Ac i h.nd (BH (gp (fun e _=>g e) s).1) (h.get qi) (h.loc P) rfl (.inl (r x))
        .cases S
       .exact plain q
      .exact plain q
     .cases q
    .rename_i v K _ _ o i Z;split at q
     .rename_i T;obtain⟨c,p,rfl⟩:=m_ T;obtain⟨x,s,q⟩:=aw q;obtain⟨y,j,q⟩:=aw q;split at q
      .cases q
      .rename_i m;obtain⟨z,H,rfl⟩:=aA q;have l:∀a b c d,v≠.ListComp a b c d:=jw (by simpa using m);obtain⟨t,w⟩:=IK H l;exact EG (by have:=h.hu;lia) ((g o).e x s) (gp (fun e _=>g e) j).1 ((g v).v z H) (jd l t w)
     obtain⟨x,s,q⟩:=aw q;obtain⟨y,j,q⟩:=aw q;split at q
     .cases q
     .rename_i m;obtain⟨z,H,rfl⟩:=aA q;have l:∀a b c d,v≠.ListComp a b c d:=jw (by simpa using m);obtain⟨t,w⟩:=IK H l;exact EI (by have:=h.hu;lia) ((g o).e x s) ((g i).v y j) ((g v).v z H) (jd l t w) rfl (sr (by rw [j];rfl))
    .rename_i v K _ _ o f W;split at q
     .rename_i hd;rw [Bool.and_eq_true] at hd;obtain⟨p,rfl⟩:=Bf hd.1;obtain⟨x,s,rfl⟩:=aA q;exact EJ h.attrs ((g o).e x s) Ck (jd (fun _ _ _ _ z=>nomatch z) (fun _ _ _ _ z=>nomatch z) fun _ _ _ _ _ z=>nomatch z)
     split at q
     .cases q
     .rename_i m;obtain⟨x,s,q⟩:=aw q;obtain⟨z,j,rfl⟩:=aA q;obtain⟨t,w⟩:=BM j;exact EJ h.attrs ((g o).e x s) (x6 h n 5 j) (jd (jw (by simpa using m)) t w)
    .rename_i v K _ _ B c p;split at q
     .cases q
     .rename_i m;rw [i7,not_or] at m;obtain⟨U,s,q⟩:=aw q;obtain⟨z,H,rfl⟩:=aA q;have l:∀a b c d,v≠.ListComp a b c d:=jw (by simpa using m.1);obtain⟨t,w⟩:=IK H l;exact Ih ((g v).v z H) (tg_ok h.calm h.hN h.nd (fun x I=>⟨h.loc I,.inl (r x)⟩) s) (show swapsWith v (some (.Tuple B c p)) K.line X.env=pure false from jd l t w) (yQ (by simpa using m.2)) rfl
    .cases q
   .cases q
  .obtain⟨e,rfl,q⟩:=aw q;obtain⟨x,s,rfl⟩:=aA q;exact Ii ((g _).e x s)
  .split at q
   .cases q
   .rename_i m;obtain⟨x,s,rfl⟩:=aA q;obtain⟨t,w⟩:=sB (by rw [s];rfl);exact EK ((g _).e x s) (jd (jw (by simpa using m)) t w)
  .obtain⟨c,s,q⟩:=aw q;obtain⟨x,j,q⟩:=aw q;obtain⟨y,H,rfl⟩:=aA q;exact Ks ((g _).b c s) (kr J j) (kr J H)
  .split at q
   .cases q
   rename_i D _ G;obtain⟨U,V,q⟩:=aw q;obtain⟨it,s,q⟩:=aw q;obtain⟨b,j,rfl⟩:=aA q;cases D with
   | cons _ _=>exact absurd rfl G
   | nil=>
   exact Im R h.calm (BZ h g s) (tg_ok h.calm h.hN h.nd (fun x I=>⟨h.loc I,.inl (r x)⟩) V) (kr J j) fun x=>sM s _ x
  .cases q
structure Df where
 name:Str
 short:Str
 cls:Str
 st:Stmt
 N:LS
 ps:LS
 own:LS
 deep:LS
 refs:LS
noncomputable abbrev At:=List (Str×LS)
noncomputable def aT (T:At) (c f:Str):Bool:=T.any fun x=>decide (x.1=c) && x.2.contains f
noncomputable def fT (D:List Df) (h:Str->GF) (x:Str):Option GF:=if (D.any fun d=>decide (d.name=x) && d.cls.cps.isEmpty)=true then some (h x) else none
noncomputable def B1 (c m:Str) (d:Df):Bool:=decide (d.cls=c) && decide (d.short=m) && !d.cls.cps.isEmpty
noncomputable def mT (D:List Df) (h:Str->GF) (c m:Str):Option GF:=if m=("__init__":Str) then none else (D.find? (B1 c m)).map fun d=>h d.name
noncomputable def JA (D:List Df) (h:Str->GF) (c:Str):Option GF:=(D.find? (B1 c "__init__")).map fun d=>h d.name
noncomputable abbrev P3:=(Str->GF)×(Str->Option GF)
noncomputable def JC (G:Str->Option P) (T:At) (D:List Df) (p:P3) (d:Df):Cn:=⟨d.N,d.own,d.deep,d.refs,(ah d.st).names,fT D p.1,G,aT T,mT D p.1,p.2⟩
noncomputable def rN (G:Str->Option P) (T:At) (D:List Df) (p:P3) (d:Df):ES:=(um (Cz (JC G T D p d) 60) (av d.st)).getD CM
noncomputable def rR (G:Str->Option P) (T:At) (D:List Df):Nat->P3
 | 0=>(fun _ _ _=>none,fun _=>none)
 | n+1=>(fun x=>match D.find? fun d=>decide (d.name=x) with
  | some d=>cH d.ps.length d.N.length (rN G T D (rR G T D n) d)
  | none=>fun _ _=>none,JA D (rR G T D n).1)
noncomputable def G' (G:Str->Option P) (T:At) (D:List Df) (n:Nat):Str->GF:=(rR G T D n).1
noncomputable def Hr (d:Df):Bool:=decide ((ah d.st).kind=.function) && !(ah d.st).isCoroutine && !(ah d.st).isGenerator && decide d.N.Nodup && decide (d.N.take d.ps.length=d.ps)
 && d.ps.all (fun x=>(ah d.st).names.lookup x == some .local || (ah d.st).names.lookup x == some .cell) && (ah d.st).names.all (fun y=>y.2 != .free)
theorem CL (h:Hr d=true):FnScope d.N d.ps (ah d.st):=by
 unfold Hr at h;simp only [Bool.and_eq_true] at h;obtain⟨⟨⟨⟨⟨⟨a,e⟩,s⟩,n⟩,k⟩,f⟩,b⟩:=h;refine⟨of_decide_eq_true a,by simpa using e,by simpa using s,of_decide_eq_true n,of_decide_eq_true k,fun x c=>?_,fun y m=>?_⟩
 .have:=bQ.mp f x c;simpa using this
 .have:=bQ.mp b y m;simpa using this
structure DOk (K:FG) (mg:SV) (d:Df) (f:Addr) (fd:FuncData):Prop where
 fn:Fun K d.short d.name d.st f fd
 bd:Binds K fd d.ps []
 gl:d.cls.cps.isEmpty=true->mg d.name=some (.ref f)
 cl:d.cls.cps.isEmpty=false->∃C,iZ K d.cls C/\mg d.cls=some (.ref C)/\Cls K C/\(d.short=("__init__":Str)->Mk K C f)/\(d.short≠("__init__":Str)->Meth K C d.short f)
structure TOk (w:World) (G:Str->Option P) (T:At) (D:List Df) (K:FG) (mg:SV):Prop where
 fn:∀d ∈ D,∃f fd,DOk K mg d f fd
 sc:D.all Hr=true
 un:(D.map (·.name)).Nodup
 z:∀x ∈ By,mg x=none
 gl:∀x v,G x=some v->mR w K mg x v
 at':Ig K (aT T)
theorem nJ:∀{D:List Df}{d:Df},(D.map (·.name)).Nodup->d ∈ D->(D.find? fun e=>decide (e.name=d.name))=some d
 | [],_,_,h=>by cases h
 | a::r,d,x,h=>by
  rw [List.map_cons,List.nodup_cons] at x;rcases az.mp h with h | h
  .subst h;simp
  .have n:¬a.name=d.name:=fun z=>x.1 (by rw [z];exact cn.mpr ⟨d,h,rfl⟩);rw [List.find?_cons_of_neg (by simpa using n)];exact nJ x.2 h
theorem zY {D:List Df}{x:Str}{a:Str->GF}{g:GF} (h:fT D a x=some g):∃d ∈ D,d.name=x/\d.cls.cps.isEmpty=true/\g=a x:=by
 unfold fT at h;split at h
 .rename_i c;cases h;obtain⟨d,hd,e⟩:=i9.mp c;rw [Bool.and_eq_true] at e;exact⟨d,hd,of_decide_eq_true e.1,e.2,rfl⟩
 .cases h
theorem zh (h:B1 c m d=true):d.cls=c/\d.short=m/\d.cls.cps.isEmpty=false:=by unfold B1 at h;simp only [Bool.and_eq_true] at h;exact⟨of_decide_eq_true h.1.1,of_decide_eq_true h.1.2,by simpa using h.2⟩
theorem zZ {D:List Df}{x:Str->GF}{c m:Str}{g:GF} (h:mT D x c m=some g):m≠("__init__":Str)/\∃d ∈ D,d.cls=c/\d.short=m/\d.cls.cps.isEmpty=false/\g=x d.name:=by
 unfold mT at h;split at h
 .cases h
 .rename_i n;obtain⟨d,q,rfl⟩:=aA h;obtain⟨a,e,s⟩:=zh (pH q);exact⟨n,d,pU q,a,e,s,rfl⟩
theorem z0 {D:List Df}{x:Str->GF}{c:Str}{g:GF} (h:JA D x c=some g):∃d ∈ D,d.cls=c/\d.short=("__init__":Str)/\d.cls.cps.isEmpty=false/\g=x d.name:=by unfold JA at h;obtain⟨d,q,rfl⟩:=aA h;obtain⟨a,e,s⟩:=zh (pH q);exact⟨d,pU q,a,e,s,rfl⟩
theorem wd {G:Str->Option P}{T:At}{D:List Df}{Pg:Program}{w:World}{K:FG}{mg:SV}{base:Heap} (Tk:TOk w G T D K mg):∀n,(∀d ∈ D,
  ∀f fd,Fun K d.short d.name d.st f fd->FnOk Pg w K mg base pF n f fd d.ps (oa K (G' G T D n d.name))) /\
  ∀c g,(rR G T D n).2 c=some g->∃m,n=m+1/\∃C f fd ps,iZ K c C/\mg c=some (.ref C)/\Mk K C f/\FnOk Pg w K mg base pF m f fd ps (oa K g)/\Binds K fd ps []
 | 0=>⟨fun d hd f fd hF=>zw,fun c g h=>(by cases (show (none:Option GF)=some g from h))⟩
 | n+1=>by
  have ih:=wd (Pg:=Pg) (w:=w) (base:=base) Tk n;refine⟨fun d hd f fd hF=>?_,fun c g h=>?_⟩
  .have e:G' G T D (n+1) d.name=cH d.ps.length d.N.length (rN G T D (rR G T D n) d):=by
    show (match D.find? fun d'=>decide (d'.name=d.name) with | some d=>cH d.ps.length d.N.length (rN G T D (rR G T D n) d) | none=>fun _ _=>none)=_;rw [nJ Tk.un hd]
   rw [e];have hsc:=CL (bQ.mp Tk.sc d hd);have XO:∀(cdv:Value) (A:Around) (outer:List Env) (s:Shared) (H:Hp) (E':XK),Room n (A.deeper (envOfC d.name (ah d.st) s.heap.objs.size f cdv)) ->
     XOk (JC G T D (rR G T D n) d) (tF pF Pg w K mg base d.N d.name (ah d.st) f cdv A outer s H E').nox:=fun cdv A outer s H E' hr=>{
    hN:=rfl
    nd:=hsc.nd
    ks:=rfl
    kd:=hsc.kind
    calm:=rfl
    hu:=by have:=hr.un;show (A.deeper (envOfC d.name (ah d.st) s.heap.objs.size f cdv)).units+64 < _;lia
    fns:=fun x g hg=>by obtain⟨d',hd',hn,hc,rfl⟩:=zY hg;obtain⟨f',fd',h1⟩:=Tk.fn d' hd';subst hn;exact⟨n,f',fd',d'.ps,(ih.1 d' hd' f' fd' h1.fn),hr,h1.gl hc,h1.fn.kp,h1.bd⟩
    blt:=Tk.z
    glb:=Tk.gl
    attrs:=Tk.at'
    meths:=fun c m g hg=>by obtain⟨hm,d',hd',rfl,rfl,hc,rfl⟩:=zZ hg;obtain⟨f',fd',h1⟩:=Tk.fn d' hd';obtain⟨C,c1,c2,c3,c4,c5⟩:=h1.cl hc;exact⟨C,n,f',fd',d'.ps,c1,c3,c5 hm,(ih.1 d' hd' f' fd' h1.fn),hr,h1.bd⟩
    mks:=fun c g hg=>by obtain⟨m,rfl,C,f',fd',ps,c1,c2,c3,c4,c5⟩:=ih.2 c g hg;exact⟨C,m,f',fd',ps,c1,c2,c3,c4,hr,c5⟩ }
   refine DY (N:=d.N) hF hsc fun cdv A outer s H E' hr=>?_;have X:=XO cdv A outer s H E' hr;unfold rN;cases q:um (Cz (JC G T D (rR G T D n) d) 60) (av d.st) with
   | none=>exact wQ.imp' fun D σ H hz=>by obtain⟨F,m,L,S,fl,L',S',r,l,q,k⟩:=hz;cases q
   | some b=>exact kr (fun st f q=>x2 X (fun _=>rfl) PassesOwn.never 60 st f q) q
  .obtain⟨d,hd,rfl,hs,hc,rfl⟩:=z0 (x:=(rR G T D n).1) h;obtain⟨f,fd,h1⟩:=Tk.fn d hd;obtain⟨C,c1,c2,c3,c4,c5⟩:=h1.cl hc;exact⟨n,rfl,C,f,fd,d.ps,c1,c2,c4 hs,(ih.1 d hd f fd h1.fn),h1.bd⟩
theorem sP:∀s:List Int,cA K F H (s.map .int) (s.map V.int)
 | []=>rfl
 | n::r=>⟨_,_,rfl,rfl,sP r⟩
theorem DJ {K:FG}{H:Hp}{a:Addr}{n:List Int}{g:GF}{E:XK} (O:xF H) (S:gY K H a (n.map V.int)) (h:pureOf g [.ro (n.map .int)]=some (.bl true)):oa K g [.ref a] H (fun v _=>v=.bl true) E:=by
 refine ng ⟨fun b=>b=a/\H a≠none,[.ro (n.map .int)],.bl true,fun b x=>(by rw [x.1];exact x.2),⟨_,_,rfl,⟨a,_,rfl,?_,sP n⟩,rfl⟩,h,fun v F s _ r=>r⟩;rcases S with S | S
 .rcases O a with z | ⟨o,k,z⟩
  .rcases S with S | ⟨o,S⟩ <;> rw [z] at S <;> cases S
  .rcases S with S | ⟨e,S⟩
   .rw [z] at S;cases S
   .exact .inl ⟨⟨rfl,by rw [z];exact fun q=>nomatch q⟩,e,S⟩
 .exact .inr (.inr S)
open PySem L2
section
variable (L:Lc) (S:aJ)
@[simp] theorem JW (v:P):vC v L S=some (v,S):=rfl
@[simp] theorem HM (i:Nat):aa i L S=match L[i]? with | some (some d)=>some (d,S) | _=>none:=rfl
@[simp] theorem m9 (f:EE):vE f L S=aL (f L S) (toP 9):=rfl
@[simp] theorem o_ (f:EV):eV f L S=aL (f L S) fun v h=>some (.p v,h):=rfl
@[simp] theorem Ct (g:P->P->Option P) (a b:EV):ab g a b L S=aL (a L S) fun x h=>aL (b L h) fun y e=>(g x y).map fun v=>(v,e):=rfl
@[simp] theorem IL (g:P->Option P) (a:EV):Cs g a L S=aL (a L S) fun x h=>(g x).map fun v=>(v,h):=rfl
@[simp] theorem Kl (a:EV):bV a L S=aL (a L S) fun x h=>match x with | .bl b=>some (b,h) | _=>none:=rfl
@[simp] theorem HY (a b:EB):gX a b L S=aL (a L S) fun c h=>if c=true then b L h else some (false,h):=rfl
@[simp] theorem JN (a b:EB):wq a b L S=aL (a L S) fun c h=>if c=true then some (true,h) else b L h:=rfl
@[simp] theorem HX (a:EB):mw a L S=aL (a L S) fun c h=>some (!c,h):=rfl
@[simp] theorem HW:eT L S=some (true,S):=rfl
@[simp] theorem JX (a:EB):vB a L S=aL (a L S) fun c h=>some (.bl c,h):=rfl
@[simp] theorem IN (c:EB) (a b:EV):BJ c a b L S=aL (c L S) fun k h=>if k=true then a L h else b L h:=rfl
@[simp] theorem xU:aS L S=some ([],S):=rfl
@[simp] theorem oN (a:EV) (r:gj):aR a r L S=aL (a L S) fun x h=>aL (r L h) fun s e=>some (x::s,e):=rfl
@[simp] theorem Al (a:gj):aF a L S=aL (a L S) fun x h=>if few x=true then some (.tup x,h) else none:=rfl
@[simp] theorem Hk (a:gj):aW a L S=aL (a L S) fun x h=>if few x=true then some (.lst x,h) else none:=rfl
@[simp] theorem HN (a:gj):cy a L S=aL (a L S) fun x h=>if few x=true then some (.ref h.length,h++[.lst (x.map .p)]) else none:=rfl
@[simp] theorem xV (g:List P->Option P) (a:gj):af g a L S=aL (a L S) fun x h=>(g x).map fun v=>(v,h):=rfl
@[simp] theorem Am (r:EE):dU r L S=aL (r L S) fun d h=>match cj d h with | some n=>some (.int (n:Int),h) | none=>none:=by
 unfold dU;cases r L S with
 | none=>rfl
 | some z=>obtain⟨d,h⟩:=z;rw [aD,aD];cases cj d h <;> rfl
@[simp] theorem E7 (r:EE):oS r L S=aL (r L S) fun d h=>match wN d h with | some s=>(jo s).map fun v=>(v,h) | none=>none:=rfl
@[simp] theorem IM (a:EV):Ei a L S=aL (a L S) fun v h=>match v with | .int s=>if decide (s.natAbs < 1000000)=true then some (.lst (intsFrom 0 s.toNat),h) else none | _=>none:=rfl
@[simp] theorem Hi (a:EV) (lo h:EO):j5 a lo h L S=aL (a L S) fun x e=>aL (lo L e) fun i s=>aL (h L s) fun j n=>(zI x i j).map fun v=>(v,n):=rfl
@[simp] theorem E8 (a b c:EV):vn a b c L S=aL (a L S) fun d h=>aL (b L h) fun y x=>aL (c L x) fun z e=>match d with
 | .dct s v=>match cg y with
  | some k=>some ((bR k s v).getD z,e)
  | none=>none
 | _=>none:=rfl
@[simp] theorem Jb:eW L S=some (.nx,L,S):=rfl
@[simp] theorem qq (f g:ES):ae f g L S=match f L S with | some (.nx,s,k)=>g s k | r=>r:=rfl
@[simp] theorem dW (i:Nat) (f:EE):ao i f L S=aL (f L S) fun d h=>some (.nx,L.set i (some d),h):=rfl
@[simp] theorem mH (f:EE):aO f L S=aL (f L S) fun d h=>some (.rt d,L,h):=rfl
@[simp] theorem kx (f:EE):bL f L S=aL (f L S) fun _ h=>some (.nx,L,h):=rfl
@[simp] theorem j6 (c:EB) (a b:ES):eO c a b L S=aL (c L S) fun k h=>if k=true then a L h else b L h:=rfl
@[simp] theorem bS (i:gj) (g:iY) (b:ES):cb i g b L S=aL (i L S) fun x h=>aZ g b x L h:=rfl
@[simp] theorem HH (i:Nat) (v:P):ag i v L=some (L.set i (some (.p v))):=rfl
@[simp] theorem gO (a:EV):g6 a L S=aL (a L S) fun v h=>match v with | .lst s=>some (s,h) | .ro s=>some (s,h) | .tup s=>some (s,h) | .str x=>if (x.cps.all (· < 128))=true then some (signs x,h) else none | _=>none:=rfl
@[simp] theorem jn (r:EE) (k:EV):t3 r k L S=aL (r L S) fun d x=>aL (k L x) fun y h=>match d with
 | .p v=>(am v y).map fun z=>(.p z,h)
 | .ref i=>match h[i]? with
  | some (.lst s)=>(match y with
   | .int j=>(L2.atI s j).map fun z=>(z,h)
   | _=>none)
  | some (.fz v)=>(am v y).map fun z=>(.p z,h)
  | some (.dct a e)=>(match cg y with
   | some k=>(bR k a e).map fun z=>(z,h)
   | none=>none)
  | _=>none:=rfl
@[simp] theorem kc (r a:EE):bu r a L S=aL (r L S) fun d h=>match dk d h with
 | none=>none
 | some _=>aL (a L h) fun x e=>match dk d e with
  | some (i,s)=>if few s=true then some (.p .non,e.set i (.lst (s++[x]))) else none
  | none=>none:=rfl
end
variable {t:Type}
@[simp] theorem lu (x:List t):(few x=true)=(x.length≤1000000):=by unfold few;simp
@[simp] theorem kH (n:Nat):(gc n=true)=(n≤1000000):=by unfold gc;simp
theorem bn {t:Type}{s:List t}{i:Int}{x:t} (a:0≤i) (h:s[i.toNat]? = some x):L2.atI s i=some x:=by have l:=(List.getElem?_eq_some_iff.mp h).1;unfold L2.atI L2.w_;rw [if_pos a,if_pos (by lia)];exact h
@[simp] theorem G8 (x:t) (s:List t):L2.atI (x::s) 0=some x:=bn (by lia) rfl
@[simp] theorem H0 (x y:t) (s:List t):L2.atI (x::y::s) 1=some y:=bn (by lia) rfl
@[simp] theorem HZ (x y z:t) (s:List t):L2.atI (x::y::z::s) 2=some z:=bn (by lia) rfl
@[simp] theorem ED (x y z w:t) (s:List t):L2.atI (x::y::z::w::s) 3=some w:=bn (by lia) rfl
@[simp] theorem HR (x:List P) (i:Int):am (.tup x) (.int i)=L2.atI x i:=rfl
@[simp] theorem HS (x:List P) (i:Int):am (.lst x) (.int i)=L2.atI x i:=rfl
@[simp] theorem JK (x:List P) (i:Int):am (.ro x) (.int i)=L2.atI x i:=rfl
@[simp] theorem HU (k:List bI) (v:List P) (x:Str):am (.dct k v) (.str x)=bR (.inr x) k v:=rfl
@[simp] theorem G1 (i j:Int):u5 (.int i) (.int j)=some (.bl (decide (i=j))):=rfl
@[simp] theorem G0 (i j:Str):u5 (.str i) (.str j)=some (.bl (decide (i=j))):=rfl
@[simp] theorem HV (i j:Bool):u5 (.bl i) (.bl j)=some (.bl (decide (i=j))):=rfl
@[simp] theorem HQ (i j:Int):D5 (.int i) (.int j)=some (.bl (!decide (i=j))):=rfl
@[simp] theorem HP (i j:Str):D5 (.str i) (.str j)=some (.bl (!decide (i=j))):=rfl
@[simp] theorem JJ (i j:Bool):D5 (.bl i) (.bl j)=some (.bl (!decide (i=j))):=rfl
@[simp] theorem G2 (i j:Int):rG (.int i) (.int j)=some (.int (i+j)):=rfl
@[simp] theorem GX (i j:Int):rF (.int i) (.int j)=if fo i j=true then some (.int (i * j)) else none:=rfl
@[simp] theorem GW (i:Int):u3 (.int i)=some (.int (-i)):=rfl
theorem aj (e n:Nat) (b:ES) (ps:List P):pureOf (cH e n b) ps=if ps.length=e then match b (ps.map (fun p=>some (.p p))++List.replicate (n-ps.length) none) [] with
 | some (.rt d,_,S)=>(toP 9 d S).map (·.1)
 | some (.nx,_,_)=>some .non
 | _=>none else none:=by
 unfold pureOf cH;rw [bP,List.map_map];by_cases h:ps.length=e
 .rw [if_pos h,if_pos h];show (match (match b (ps.map (fun p=>some (D.p p))++List.replicate (n-ps.length) none) [] with
   | some (.rt d,_,a)=>some (d,a)
   | some (.nx,_,a)=>some (.p .non,a)
   | _=>none:Option (D×aJ)) with
   | some (d,S)=>(toP 9 d S).map (fun (x:P×aJ)=>x.1)
   | none=>none)=_
  cases b (ps.map (fun p=>some (D.p p))++List.replicate (n-ps.length) none) [] with
  | none=>rfl
  | some z=>obtain⟨f,L,S⟩:=z;cases f <;> simp
 .rw [if_neg h,if_neg h]
variable {v:P}
theorem bC (h:g v L=some s) (x:b s S=some (.nx,L2,k)):aZ g b (v::r) L S=aZ g b r L2 k:=by simp [aZ,h,x]
theorem sV (h:g v L=some s) (x:b s S=some (.rt d,L2,k)):aZ g b (v::r) L S=some (.rt d,L2,k):=by simp [aZ,h,x]
section
variable (L:Lc) (S:aJ)
@[simp] theorem Hj (g:D->D->aJ->Option P) (a b:EE):aH g a b L S=aL (a L S) fun x e=>aL (b L e) fun y h=>(g x y h).map fun v=>(v,h):=rfl
@[simp] theorem Km (a:EE):bT a L S=aL (a L S) fun d h=>(xY d h).map fun b=>(b,h):=rfl
@[simp] theorem Ej (g e:P->P->Option P) (a b c:EV):k_ g e a b c L S=aL (a L S) fun x s=>aL (b L s) fun y h=>match g x y with
 | some (.bl true)=>aL (c L h) fun z n=>(e y z).map fun v=>(v,n)
 | some (.bl false)=>some (.bl false,h)
 | _=>none:=rfl
@[simp] theorem qJ (a:EV):ol a L S=aL (a L S) fun v h=>match v with | .lst s=>some (bj 0 s,h) | .ro s=>some (bj 0 s,h) | _=>none:=rfl
@[simp] theorem vX (a:EV):gW a L S=aL (a L S) fun x h=>match x with | .int n=>if (decide (n.natAbs < 1000000))=true then some (intsFrom 0 n.toNat,h) else none | _=>none:=by
 unfold gW;cases a L S with
 | none=>rfl
 | some z=>obtain⟨x,h⟩:=z;cases x <;> first | rfl | simp
@[simp] theorem uV (r:EE) (a:EV):dH r a L S=aL (r L S) fun d h=>match dk d h with
 | none=>none
 | some _=>aL (a L h) fun x e=>match dk d e,x with
  | some (i,s),.lst y=>if gc (s.length+y.length)=true then some (.p .non,e.set i (.lst (s++y.map .p))) else none
  | _,_=>none:=rfl
@[simp] theorem GQ:bf L S=some ([],S):=rfl
@[simp] theorem Es (a:EE) (r:n0):ac a r L S=aL (a L S) fun x h=>aL (r L h) fun s e=>some (x::s,e):=rfl
@[simp] theorem xo (g:GF) (a:n0):fC g a L S=aL (a L S) fun d h=>g d h:=rfl
@[simp] theorem oT (g:GF) (a:n0):cB g a L S=aL (a L S) fun s h=>aL (g s h) fun d x=>aL (toP 9 d x) fun v e=>some (v,trunc h.length e):=rfl
@[simp] theorem Hl (T:String) (f:EE):ui T f L S=aL (f L S) fun d h=>(uK T d h).map fun b=>(.bl b,h):=rfl
@[simp] theorem Hs (g:iY) (f:EV):qo g f L S=aL (f L S) fun v h=>match g v L with | some s=>some (.nx,s,h) | none=>none:=rfl
@[simp] theorem GI (g:List iY) (v:List P):aV g (.tup v) L=nG g v L:=rfl
@[simp] theorem GH:nG [] [] L=some L:=rfl
@[simp] theorem Eo (g:iY) (s:List iY) (v:P) (h:List P):nG (g::s) (v::h) L=match g v L with | some k=>nG s h k | none=>none:=rfl
@[simp] theorem Jz (T:String) (v:P):uK T (.p v) S=some (iG T v):=rfl
@[simp] theorem IP (v:P):xY (.p v) S=ul v:=rfl
@[simp] theorem Hn (b:Bool):ul (.bl b)=some b:=rfl
@[simp] theorem E9 (i:Int):ul (.int i)=some (i != 0):=rfl
@[simp] theorem J8 (x y:P):d9 (.p x) (.p y) S=(zz x y).map .bl:=rfl
@[simp] theorem J7 (x y:P):mN (.p x) (.p y) S=(xG x y).map .bl:=rfl
end
@[simp] theorem HK (i j:Int):zz (.int i) (.int j)=some (decide (i=j)):=rfl
@[simp] theorem HJ (i j:Str):zz (.str i) (.str j)=some (decide (i=j)):=rfl
@[simp] theorem JH (i j:Bool):zz (.bl i) (.bl j)=some (decide (i=j)):=rfl
@[simp] theorem HC (i j:Int):xG (.int i) (.int j)=some (!decide (i=j)):=rfl
@[simp] theorem HB (i j:Str):xG (.str i) (.str j)=some (!decide (i=j)):=rfl
@[simp] theorem Jt (i j:Bool):xG (.bl i) (.bl j)=some (!decide (i=j)):=rfl
@[simp] theorem EC (i j:Int):aG (.int i) (.int j)=some (.int (i+j)):=rfl
@[simp] theorem Ez (x y:Str):aG (.str x) (.str y)=rG (.str x) (.str y):=rfl
@[simp] theorem EA (x y:List P):aG (.lst x) (.lst y)=if gc (x.length+y.length)=true then some (.lst (x++y)) else none:=rfl
@[simp] theorem Ex (i j:Int):du (.int i) (.int j)=if fo i j=true then some (.int (i * j)) else none:=rfl
@[simp] theorem Ew (x:List P) (n:Int):du (.lst x) (.int n)=if (gc (x.length * n.toNat) && decide (n.natAbs < 1000000))=true then some (.lst (List.replicate n.toNat x).flatten) else none:=rfl
@[simp] theorem Et (x:List P) (n:Int):du (.tup x) (.int n)=if (gc (x.length * n.toNat) && decide (n.natAbs < 1000000))=true then some (.tup (List.replicate n.toNat x).flatten) else none:=rfl
@[simp] theorem Eu (x:Str) (n:Int):du (.str x) (.int n)=rF (.str x) (.int n):=rfl
theorem yR (h:dq 20 v=true):xG v v=some false:=by
 unfold xG;have e:PyData.eqv (pd v) (pd v)=true:=qc _ (fL 20 v h).1;cases q:D5 v v with
 | none=>simp [h,e]
 | some z=>
  cases v with
  | int i=>cases q;simp
  | str i=>cases q;simp
  | bl i=>cases q;simp
  | non=>cases q
  | tup _=>cases q
  | lst _=>cases q
  | ro _=>cases q
  | dct _ _=>cases h
theorem v_ (h:dq 20 (.lst s)=true):zz (.lst s) (.lst [])=some s.isEmpty:=by
 unfold zz;have e:dq 20 (.lst [])=true:=rfl;show (if (dq 20 (.lst s) && dq 20 (.lst []))=true then some (PyData.eqv (pd (.lst s)) (pd (.lst []))) else none)=_;rw [h,e];cases s with
 | nil=>rfl
 | cons x r=>simp [pd,kQ,PyData.eqv,PyData.eqvAll]
theorem jx (h:dq 20 (.lst s)=true):xG (.lst s) (.lst [])=some (!s.isEmpty):=by
 unfold xG;have e:dq 20 (.lst [])=true:=rfl;show (if (dq 20 (.lst s) && dq 20 (.lst []))=true then some (!PyData.eqv (pd (.lst s)) (pd (.lst []))) else none)=_;rw [h,e];cases s with
 | nil=>rfl
 | cons x r=>simp [pd,kQ,PyData.eqv,PyData.eqvAll]
section
variable (L:Lc) (S:aJ)
@[simp] theorem Bo (A:Str->Str->Bool) (o:EE) (f:Str):dP A o f L S=aL (o L S) fun d h=>match d with
 | .ref i=>match h[i]? with
  | some (.ins c k s)=>if A c f=true then (gM f k s).map fun z=>(z,h) else none
  | _=>none
 | _=>none:=rfl
@[simp] theorem Ht (A:Str->Str->Bool) (o:EE) (f:Str) (v:EE):ku A o f v L S=aL (v L S) fun y x=>aL (o L x) fun d h=>match d with
 | .ref i=>match h[i]? with
  | some (.ins c k s)=>if (A c f && decide (k.length < 900))=true then some (.nx,L,h.set i (.ins c (putK f k) (nl f y k s))) else none
  | _=>none
 | _=>none:=rfl
@[simp] theorem ib (M:Str->Str->Option GF) (o:EE) (m:Str) (Q:n0):dG M o m Q L S=aL (o L S) fun d h=>match d with
 | .ref i=>match h[i]? with
  | some (.ins c k _)=>match M c m with
   | some g=>if k.contains m=true then none else aL (Q L h) fun v x=>g (.ref i::v) x
   | none=>none
  | _=>none
 | _=>none:=rfl
@[simp] theorem GO (g:GF) (c:Str) (Q:n0):pa g c Q L S=aL (Q L S) fun v h=>match g (.ref h.length::v) (h++[.ins c [] []]) with
 | some (.p .non,x)=>some (.ref h.length,x)
 | _=>none:=rfl
end
section
variable (L:Lc) (S:aJ)
@[simp] theorem Hm (a f:EV):n2 a f L S=aL (a L S) fun v x=>match v with
 | .lst p=>aL (f L x) fun y h=>(j9 p y).map fun (i:Nat)=>(.int (i:Int),h)
 | .tup p=>aL (f L x) fun y h=>(j9 p y).map fun (i:Nat)=>(.int (i:Int),h)
 | _=>none:=rfl
@[simp] theorem Er:qS L S=some (.ref S.length,S++[.dtt [] []]):=rfl
@[simp] theorem wb (o:EE) (k:gj):uU o k L S=aL (o L S) fun d x=>aL (k L x) fun ps h=>match iB d h,cw ps with
 | some (_,s,v),some e=>if few ps=true then (b0 e s v).map fun z=>(z,h) else none
 | _,_=>none:=rfl
@[simp] theorem sZ (o:EE) (k:gj):s_ o k L S=aL (o L S) fun d h=>match iB d h with
 | none=>none
 | some _=>aL (k L h) fun p x=>match iB d x,cw p with
  | some (_,s,v),some e=>if few p=true then some ((b0 e s v).getD (.p .non),x) else none
  | _,_=>none:=rfl
@[simp] theorem Fz (o:EE) (k:gj) (v:EV):vA o k v L S=aL (v L S) fun y a=>aL (o L a) fun d n=>aL (k L n) fun ps h=>match iB d h,cw ps with
 | some (i,s,x),some e=>if (s.Nodup/\few s=true/\few ps=true) then some (.nx,L,h.set i (.dtt (cR e (.p y) s x).1 (cR e (.p y) s x).2)) else none
 | _,_=>none:=rfl
@[simp] theorem nN (o:EE) (k:EV) (d:EE):mO o k d L S=aL (o L S) fun x a=>match jD x a with
 | none=>none
 | some _=>aL (k L a) fun z n=>aL (d L n) fun y h=>match jD x h,cg z with
  | some (i,s,v),some e=>if (s.Nodup/\few s=true) then match b0 e s v with
    | some w=>some (w,h)
    | none=>some (y,h.set i (.dct (cR e y s v).1 (cR e y s v).2))
   else none
  | _,_=>none:=rfl
@[simp] theorem Ep (f b:EV):qR f b L S=aL (f L S) fun x a=>aL (b L a) fun y h=>match x,y with
 | .lst s,.tup v=>match cw s with
  | some k=>if (k.Nodup/\few s=true/\k.length≤v.length) then some (.ref h.length,h++[.dct k ((v.take k.length).map .p)]) else none
  | none=>none
 | _,_=>none:=rfl
end
section
variable {L:Lc}{S:aJ}
@[simp high] theorem Lk (d:D) :aa 0 (some d::L) S=some (d,S):=rfl
@[simp high] theorem Lj (d:D) (a:Option D):aa 1 (a::some d::L) S=some (d,S):=rfl
@[simp high] theorem Li (d:D) (a h:Option D):aa 2 (a::h::some d::L) S=some (d,S):=rfl
@[simp high] theorem Lh (d:D) (a h x:Option D):aa 3 (a::h::x::some d::L) S=some (d,S):=rfl
@[simp high] theorem Lg (d:D) (a h x e:Option D):aa 4 (a::h::x::e::some d::L) S=some (d,S):=rfl
@[simp high] theorem Lf (d:D) (a h x e s:Option D):aa 5 (a::h::x::e::s::some d::L) S=some (d,S):=rfl
@[simp high] theorem Le (d:D) (a h x e s n:Option D):aa 6 (a::h::x::e::s::n::some d::L) S=some (d,S):=rfl
@[simp high] theorem Ld (d:D) (a h x e s n k:Option D):aa 7 (a::h::x::e::s::n::k::some d::L) S=some (d,S):=rfl
@[simp high] theorem Lb (d:D) (a h x e s n k f:Option D):aa 8 (a::h::x::e::s::n::k::f::some d::L) S=some (d,S):=rfl
@[simp high] theorem La (d:D) (a h x e s n k f b:Option D):aa 9 (a::h::x::e::s::n::k::f::b::some d::L) S=some (d,S):=rfl
@[simp high] theorem Kh (d:D) (a h x e s n k f b c:Option D):aa 10 (a::h::x::e::s::n::k::f::b::c::some d::L) S=some (d,S):=rfl
@[simp high] theorem Kg (d:D) (h x e s n k f b c m a:Option D):aa 11 (h::x::e::s::n::k::f::b::c::m::a::some d::L) S=some (d,S):=rfl
@[simp high] theorem Kf (d:D) (x e s n k f b c m r a h:Option D):aa 12 (x::e::s::n::k::f::b::c::m::r::a::h::some d::L) S=some (d,S):=rfl
@[simp high] theorem Ke (d:D) (e s n k f b c m r t a h x:Option D):aa 13 (e::s::n::k::f::b::c::m::r::t::a::h::x::some d::L) S=some (d,S):=rfl
@[simp high] theorem Kd (d:D) (s n k f b c m r t p a h x e:Option D):aa 14 (s::n::k::f::b::c::m::r::t::p::a::h::x::e::some d::L) S=some (d,S):=rfl
@[simp high] theorem Kc (d:D) (n k f b c m r t p q a h x e s:Option D):aa 15 (n::k::f::b::c::m::r::t::p::q::a::h::x::e::s::some d::L) S=some (d,S):=rfl
@[simp high] theorem Kb (d:D) (k f b c m r t p q v a h x e s n:Option D):aa 16 (k::f::b::c::m::r::t::p::q::v::a::h::x::e::s::n::some d::L) S=some (d,S):=rfl
@[simp high] theorem Ka (d:D) (f b c m r t p q v w a h x e s n k:Option D):aa 17 (f::b::c::m::r::t::p::q::v::w::a::h::x::e::s::n::k::some d::L) S=some (d,S):=rfl
@[simp ↓ high] theorem K8  (x y:s):(if few ([]:List t)=true then x else y)=x:=rfl
@[simp ↓ high] theorem K7 (a:t) (x y:s):(if few ([a]:List t)=true then x else y)=x:=rfl
@[simp ↓ high] theorem K6 (a h:t) (x y:s):(if few ([a,h]:List t)=true then x else y)=x:=rfl
@[simp ↓ high] theorem K5 (a h e:t) (x y:s):(if few ([a,h,e]:List t)=true then x else y)=x:=rfl
@[simp ↓ high] theorem K4 (a h e s:t) (x y:k):(if few ([a,h,e,s]:List t)=true then x else y)=x:=rfl
@[simp ↓ high] theorem K3 (a h e s n:t) (x y:k):(if few ([a,h,e,s,n]:List t)=true then x else y)=x:=rfl
@[simp ↓ high] theorem K2 (a h e s n k:t) (x y:b):(if few ([a,h,e,s,n,k]:List t)=true then x else y)=x:=rfl
@[simp ↓ high] theorem K1 (a h e s n k f:t) (x y:b):(if few ([a,h,e,s,n,k,f]:List t)=true then x else y)=x:=rfl
@[simp ↓ high] theorem K0 (a h e s n k f b:t) (x y:c):(if few ([a,h,e,s,n,k,f,b]:List t)=true then x else y)=x:=rfl
@[simp ↓ high] theorem KZ (a h e s n k f b c:t) (x y:r):(if few ([a,h,e,s,n,k,f,b,c]:List t)=true then x else y)=x:=rfl
@[simp ↓ high] theorem J_ (a h e s n k f b c m:t) (x y:r):(if few ([a,h,e,s,n,k,f,b,c,m]:List t)=true then x else y)=x:=rfl
@[simp ↓ high] theorem J9 (h e s n k f b c m r a:t) (x y:q):(if few ([h,e,s,n,k,f,b,c,m,r,a]:List t)=true then x else y)=x:=rfl
@[simp high] theorem Lp (v:P) (S:aJ):toP 9 (.p v) S=some (v,S):=rfl
@[simp ↓ high] theorem Kk (x:Option (t×aJ)) (f:t->aJ->Option s):aL x f=match x with | some (a,S)=>f a S | none=>none:=rfl
@[simp ↓ high] theorem KR (x y:s):(if true=true then x else y)=x:=rfl
@[simp ↓ high] theorem KS (x y:s):(if false=true then x else y)=y:=rfl
end
end Ev
namespace My
variable {n:Nat}
theorem K' (h:1≤n):∃m,n=m+1:=⟨n-1,by lia⟩
theorem fV {n:Nat} (h:2≤n):∃m,n=m+2:=⟨n-2,by lia⟩
theorem K_ (h:4≤n):∃m,n=m+4:=⟨n-4,by lia⟩
open PySem L2 Ev
noncomputable abbrev qp (x:P):Option D:=some (.p x)
noncomputable abbrev qi (x:Int):Option D:=some (.p (.int x))
noncomputable abbrev qs (x:Str):Option D:=some (.p (.str x))
noncomputable abbrev ql (x:List P):Option D:=some (.p (.lst x))
noncomputable abbrev vv (k:Nat):EV:=vE (aa k)
noncomputable abbrev vi (i:Int):EV:=vC (.int i)
noncomputable abbrev vt (x:Str):EV:=vC (.str x)
noncomputable abbrev v1 (a:EV):gj:=aR a aS
noncomputable abbrev v2 (a b:EV):gj:=aR a (aR b aS)
noncomputable abbrev v3 (a b c:EV):gj:=aR a (aR b (aR c aS))
noncomputable abbrev v4 (a b c d:EV):gj:=aR a (aR b (aR c (aR d aS)))
noncomputable abbrev v5 (a b c d e:EV):gj:=aR a (aR b (aR c (aR d (aR e aS))))
noncomputable abbrev v6 (a b c d e f:EV):gj:=aR a (aR b (aR c (aR d (aR e (aR f aS)))))
noncomputable abbrev v7 (a b c d e f g:EV):gj:=aR a (aR b (aR c (aR d (aR e (aR f (aR g aS))))))
noncomputable abbrev v8 (a b c d e f g h:EV):gj:=aR a (aR b (aR c (aR d (aR e (aR f (aR g (aR h aS)))))))
noncomputable def ar (i:Nat):Stmt:=PySem.Challenge.pw_roadsall_k31_wishes_able_and_done.main.body.getD i (.Pass ⟨0,0,0,0⟩)
noncomputable def Gv (x:Str):Option P:=if x=("HIGHEST_LETTER":Str) then some (.int 999) else if x=("NOBODY":Str) then some (.int (-1)) else none
noncomputable def mr:Df:=⟨"_law_cell_at","_law_cell_at","",(ar 35),["_law_script","_law_k"],["_law_script","_law_k"],[],[],["flaw_ends","Board.family_of","Board.hands_beside","takeable","targets_of","posted","sendings","step_ends","hand_ends","ends_on","Board.__init__","able_on"]⟩
noncomputable def tw:Df:=⟨"_law_mix","_law_mix","",(ar 36),["_law_cell","_law_k","_law_turn","_law_number"],["_law_cell","_law_k"],[],[],["flaw_ends","Board.family_of","Board.hands_beside","takeable","targets_of","posted","sendings","step_ends","hand_ends","ends_on","Board.__init__","able_on"]⟩
noncomputable def oF:Df:=⟨"_law_roads","_law_roads","",(ar 41),["_law_script","_law_families_here","_law_room","_law_roads_here","_law_k","_law_one","_law_j","_law_other","_law_drawn","_law_kind"],["_law_script","_law_families_here","_law_room"],["_law_roads_here"],[],["flaw_ends","Board.family_of","Board.hands_beside","takeable","targets_of","posted","sendings","step_ends","hand_ends","ends_on","Board.__init__","able_on"]⟩
noncomputable def rg:Df:=⟨"_law_name","_law_name","",(ar 37),["_law_script","_law_k","_law_drawn"],["_law_script","_law_k"],[],[],["flaw_ends","Board.family_of","Board.hands_beside","takeable","targets_of","posted","sendings","step_ends","hand_ends","ends_on","Board.__init__","able_on"]⟩
noncomputable def oH:Df:=⟨"_law_cells","_law_cells","",(ar 38),["_law_script","_law_family_here","_law_most","_law_cells_here","_law_k","_law_drawn","_law_low","_law_high"],["_law_script","_law_family_here","_law_most"],["_law_cells_here"],[],["flaw_ends","Board.family_of","Board.hands_beside","takeable","targets_of","posted","sendings","step_ends","hand_ends","ends_on","Board.__init__","able_on"]⟩
noncomputable def tu:Df:=⟨"_law_sum","_law_sum","",(ar 39),["_law_drawn","_law_names","_law_name_here"],["_law_drawn","_law_names"],[],[],["flaw_ends","Board.family_of","Board.hands_beside","takeable","targets_of","posted","sendings","step_ends","hand_ends","ends_on","Board.__init__","able_on"]⟩
noncomputable def oE:Df:=⟨"_law_sends","_law_sends","",(ar 42),["_law_drawn","_law_family_here","_law_names","_law_whos","_law_roads_here","_law_most","_law_goals","_law_sends_here","_law_k","_law_some","_law_tree","_law_mark"],["_law_drawn","_law_family_here","_law_names","_law_whos","_law_roads_here","_law_most"],["_law_sends_here"],[],["flaw_ends","Board.family_of","Board.hands_beside","takeable","targets_of","posted","sendings","step_ends","hand_ends","ends_on","Board.__init__","able_on"]⟩
noncomputable def kG:Df:=⟨"_law_condition","_law_condition","",(ar 40),["_law_drawn","_law_names","_law_word","_law_plain"],["_law_drawn","_law_names"],[],[],["flaw_ends","Board.family_of","Board.hands_beside","takeable","targets_of","posted","sendings","step_ends","hand_ends","ends_on","Board.__init__","able_on"]⟩
noncomputable def re:Df:=⟨"_law_step","_law_step","",(ar 43),["_law_drawn","_law_family_here","_law_rooms","_law_cells_here","_law_whos","_law_roads_here","_law_names","_law_senders","_law_take","_law_free","_law_more","_law_into","_law_who","_law_changes","_law_k","_law_name_here","_law_sends_here","_law_when"],["_law_drawn","_law_family_here","_law_rooms","_law_cells_here","_law_whos","_law_roads_here"],["_law_changes"],[],["flaw_ends","Board.family_of","Board.hands_beside","takeable","targets_of","posted","sendings","step_ends","hand_ends","ends_on","Board.__init__","able_on"]⟩
noncomputable def nR:Df:=⟨"_law_family","_law_family","",(ar 44),["_law_script","_law_k","_law_name_here","_law_crew_here","_law_wide","_law_roads_here","_law_cells_here","_law_drawn","_law_rooms","_law_whos","_law_steps","_law_j","_law_first"],["_law_script","_law_k","_law_name_here","_law_crew_here","_law_wide","_law_roads_here"],["_law_steps"],[],["flaw_ends","Board.family_of","Board.hands_beside","takeable","targets_of","posted","sendings","step_ends","hand_ends","ends_on","Board.__init__","able_on"]⟩
noncomputable def rf:Df:=⟨"_law_plan","_law_plan","",(ar 45),["_law_script","_law_most","_law_total","_law_wide","_law_many","_law_names","_law_roads_here","_law_families_here","_law_k","_law_name_here","_law_crew_here","_law_wishes","_law_drawn","_law_family_here"],["_law_script","_law_most"],["_law_families_here","_law_wishes"],[],["flaw_ends","Board.family_of","Board.hands_beside","takeable","targets_of","posted","sendings","step_ends","hand_ends","ends_on","Board.__init__","able_on"]⟩
noncomputable def ms:Df:=⟨"families_of","families_of","",(ar 8),["plan","homes","place","family"],["plan"],["homes"],[],["flaw_ends","Board.family_of","Board.hands_beside","takeable","targets_of","posted","sendings","step_ends","hand_ends","ends_on","Board.__init__","able_on"]⟩
noncomputable def oB:Df:=⟨"wishes_of","wishes_of","",(ar 30),["plan","homes","found","place","wish"],["plan"],["found"],[],["flaw_ends","Board.family_of","Board.hands_beside","takeable","targets_of","posted","sendings","step_ends","hand_ends","ends_on","Board.__init__","able_on"]⟩
noncomputable def lB:Df:=⟨"_law_families","_law_families","",(ar 46),["_law_plan_here","_law_found","_law_family_here"],["_law_plan_here"],[],[],["flaw_ends","Board.family_of","Board.hands_beside","takeable","targets_of","posted","sendings","step_ends","hand_ends","ends_on","Board.__init__","able_on"]⟩
noncomputable def rh:Df:=⟨"_law_crew","_law_crew","",(ar 47),["_law_plan_here","_law_name_here"],["_law_plan_here","_law_name_here"],[],[],["flaw_ends","Board.family_of","Board.hands_beside","takeable","targets_of","posted","sendings","step_ends","hand_ends","ends_on","Board.__init__","able_on"]⟩
noncomputable def oG:Df:=⟨"_law_pairs","_law_pairs","",(ar 48),["_law_plan_here","_law_found","_law_road","_law_one","_law_other"],["_law_plan_here"],["_law_found"],[],["flaw_ends","Board.family_of","Board.hands_beside","takeable","targets_of","posted","sendings","step_ends","hand_ends","ends_on","Board.__init__","able_on"]⟩
noncomputable def lA:Df:=⟨"_law_standing","_law_standing","",(ar 49),["_law_script","_law_plan_here","_law_hands","_law_families_here","_law_hand","_law_family_here","_law_drawn","_law_cells_here","_law_k","_law_cell","_law_whos","_law_roads_here","_law_place","_law_pair","_law_letters","_law_number"],["_law_script","_law_plan_here"],["_law_cells_here","_law_hands","_law_letters","_law_roads_here","_law_whos"],[],["flaw_ends","Board.family_of","Board.hands_beside","takeable","targets_of","posted","sendings","step_ends","hand_ends","ends_on","Board.__init__","able_on"]⟩
noncomputable def rc:Df:=⟨"pairs_of","pairs_of","",(ar 9),["plan","names","pairs","road","one","name","others"],["plan"],["pairs"],[],["flaw_ends","Board.family_of","Board.hands_beside","takeable","targets_of","posted","sendings","step_ends","hand_ends","ends_on","Board.__init__","able_on"]⟩
noncomputable def xw:Df:=⟨"begin","begin","",(ar 10),["plan","hands","place","cells","whos"],["plan"],["hands"],[],["flaw_ends","Board.family_of","Board.hands_beside","takeable","targets_of","posted","sendings","step_ends","hand_ends","ends_on","Board.__init__","able_on"]⟩
noncomputable def rj:Df:=⟨"has_flaw","has_flaw","",(ar 25),["road","word","letters"],["road","word","letters"],[],[],["flaw_ends","Board.family_of","Board.hands_beside","takeable","targets_of","posted","sendings","step_ends","hand_ends","ends_on","Board.__init__","able_on"]⟩
noncomputable def lz:Df:=⟨"unlike_spots","unlike_spots","",(ar 17),["kind","letters","spots"],["kind","letters"],[],[],["flaw_ends","Board.family_of","Board.hands_beside","takeable","targets_of","posted","sendings","step_ends","hand_ends","ends_on","Board.__init__","able_on"]⟩
noncomputable def q_:Df:=⟨"replaced","replaced","",(ar 28),["row","place","thing"],["row","place","thing"],[],[],["flaw_ends","Board.family_of","Board.hands_beside","takeable","targets_of","posted","sendings","step_ends","hand_ends","ends_on","Board.__init__","able_on"]⟩
noncomputable def tt:Df:=⟨"without","without","",(ar 27),["row","place"],["row","place"],[],[],["flaw_ends","Board.family_of","Board.hands_beside","takeable","targets_of","posted","sendings","step_ends","hand_ends","ends_on","Board.__init__","able_on"]⟩
noncomputable def u1:Df:=⟨"flawed","flawed","",(ar 26),["word","letters","spot"],["word","letters","spot"],[],[],["flaw_ends","Board.family_of","Board.hands_beside","takeable","targets_of","posted","sendings","step_ends","hand_ends","ends_on","Board.__init__","able_on"]⟩
noncomputable def oJ:Df:=⟨"flaw_ends","flaw_ends","",(ar 24),["board","standing","word","ends","place","pair","road","one","other","letters","spot","roads"],["board","standing","word"],["board","ends"],[],["flaw_ends","Board.family_of","Board.hands_beside","takeable","targets_of","posted","sendings","step_ends","hand_ends","ends_on","Board.__init__","able_on"]⟩
noncomputable def jE:Df:=⟨"Board.family_of","family_of","Board",(L2.cz (ar 7) 1),["self","hand"],["self","hand"],["self"],[],["flaw_ends","Board.family_of","Board.hands_beside","takeable","targets_of","posted","sendings","step_ends","hand_ends","ends_on","Board.__init__","able_on"]⟩
noncomputable def oC:Df:=⟨"values_of","values_of","",(ar 15),["family","cells"],["family","cells"],[],[],["flaw_ends","Board.family_of","Board.hands_beside","takeable","targets_of","posted","sendings","step_ends","hand_ends","ends_on","Board.__init__","able_on"]⟩
noncomputable def rk:Df:=⟨"compared","compared","",(ar 3),["word","one","other"],["word","one","other"],[],[],["flaw_ends","Board.family_of","Board.hands_beside","takeable","targets_of","posted","sendings","step_ends","hand_ends","ends_on","Board.__init__","able_on"]⟩
noncomputable def qY:Df:=⟨"value_of","value_of","",(ar 1),["tree","values","kind","one","other"],["tree","values"],[],[],["flaw_ends","Board.family_of","Board.hands_beside","takeable","targets_of","posted","sendings","step_ends","hand_ends","ends_on","Board.__init__","able_on"]⟩
noncomputable def xt:Df:=⟨"holds","holds","",(ar 2),["condition","values","kind"],["condition","values"],[],[],["flaw_ends","Board.family_of","Board.hands_beside","takeable","targets_of","posted","sendings","step_ends","hand_ends","ends_on","Board.__init__","able_on"]⟩
noncomputable def iH:Df:=⟨"Board.hands_beside","hands_beside","Board",(L2.cz (ar 7) 2),["self","hand","name"],["self","hand","name"],["self"],[],["flaw_ends","Board.family_of","Board.hands_beside","takeable","targets_of","posted","sendings","step_ends","hand_ends","ends_on","Board.__init__","able_on"]⟩
noncomputable def qZ:Df:=⟨"takeable","takeable","",(ar 16),["board","roads","hand","take","found","sender","place","kind","letters","spots"],["board","roads","hand","take"],["board","found"],[],["flaw_ends","Board.family_of","Board.hands_beside","takeable","targets_of","posted","sendings","step_ends","hand_ends","ends_on","Board.__init__","able_on"]⟩
noncomputable def lC:Df:=⟨"cells_behind","cells_behind","",(ar 19),["family","cells","step","values","given","name","amount","numbers","place","cell","number"],["family","cells","step","values"],["given","numbers"],[],["flaw_ends","Board.family_of","Board.hands_beside","takeable","targets_of","posted","sendings","step_ends","hand_ends","ends_on","Board.__init__","able_on"]⟩
noncomputable def mq:Df:=⟨"whos_behind","whos_behind","",(ar 20),["family","whos","take","letter"],["family","whos","take","letter"],[],[],["flaw_ends","Board.family_of","Board.hands_beside","takeable","targets_of","posted","sendings","step_ends","hand_ends","ends_on","Board.__init__","able_on"]⟩
noncomputable def nQ:Df:=⟨"targets_of","targets_of","",(ar 22),["board","hand","way","name","whos","others"],["board","hand","way","name","whos"],["board"],[],["flaw_ends","Board.family_of","Board.hands_beside","takeable","targets_of","posted","sendings","step_ends","hand_ends","ends_on","Board.__init__","able_on"]⟩
noncomputable def u0:Df:=⟨"posted","posted","",(ar 23),["board","roads","hand","targets","letter","target","place","road","letters"],["board","roads","hand","targets","letter"],["board"],[],["flaw_ends","Board.family_of","Board.hands_beside","takeable","targets_of","posted","sendings","step_ends","hand_ends","ends_on","Board.__init__","able_on"]⟩
noncomputable def q0:Df:=⟨"sendings","sendings","",(ar 21),["board","hand","sends","values","roads","whos","ways","mark","amount","way","name","letter","further","chosen","sent","added","targets","roads_behind"],["board","hand","sends","values","roads","whos"],["board","further"],[],["flaw_ends","Board.family_of","Board.hands_beside","takeable","targets_of","posted","sendings","step_ends","hand_ends","ends_on","Board.__init__","able_on"]⟩
noncomputable def oD:Df:=⟨"step_ends","step_ends","",(ar 18),["board","standing","hand","step","letter","family","room","cells","whos","roads","values","place","hands","ends","chosen","roads_behind"],["board","standing","hand","step","letter"],["board","ends","values"],["values","values_of"],["flaw_ends","Board.family_of","Board.hands_beside","takeable","targets_of","posted","sendings","step_ends","hand_ends","ends_on","Board.__init__","able_on"]⟩
noncomputable def oI:Df:=⟨"hand_ends","hand_ends","",(ar 14),["board","standing","hand","family","room","cells","whos","values","ends","step","letter"],["board","standing","hand"],["board","ends"],[],["flaw_ends","Board.family_of","Board.hands_beside","takeable","targets_of","posted","sendings","step_ends","hand_ends","ends_on","Board.__init__","able_on"]⟩
noncomputable def tz:Df:=⟨"ends_on","ends_on","",(ar 13),["board","standing","ends","hand"],["board","standing"],["board","ends"],[],["flaw_ends","Board.family_of","Board.hands_beside","takeable","targets_of","posted","sendings","step_ends","hand_ends","ends_on","Board.__init__","able_on"]⟩
noncomputable def nS:Df:=⟨"Board.__init__","__init__","Board",(L2.cz (ar 7) 0),["self","plan","place","pair","hand"],["self","plan"],["self"],["families_of","pairs_of","places","self"],["flaw_ends","Board.family_of","Board.hands_beside","takeable","targets_of","posted","sendings","step_ends","hand_ends","ends_on","Board.__init__","able_on"]⟩
noncomputable def oK:Df:=⟨"ends_from","ends_from","",(ar 12),["plan","standing"],["plan","standing"],[],[],["flaw_ends","Board.family_of","Board.hands_beside","takeable","targets_of","posted","sendings","step_ends","hand_ends","ends_on","Board.__init__","able_on"]⟩
noncomputable def xu:Df:=⟨"deeds","deeds","",(ar 11),["plan","standing"],["plan","standing"],[],[],["flaw_ends","Board.family_of","Board.hands_beside","takeable","targets_of","posted","sendings","step_ends","hand_ends","ends_on","Board.__init__","able_on"]⟩
noncomputable def tB:Df:=⟨"done_by","done_by","",(ar 31),["plan","wish","deed","place","hand"],["plan","wish","deed"],[],[],["flaw_ends","Board.family_of","Board.hands_beside","takeable","targets_of","posted","sendings","step_ends","hand_ends","ends_on","Board.__init__","able_on"]⟩
noncomputable def tD:Df:=⟨"able_on","able_on","",(ar 33),["board","plan","standing","wish"],["board","plan","standing","wish"],["board"],[],["flaw_ends","Board.family_of","Board.hands_beside","takeable","targets_of","posted","sendings","step_ends","hand_ends","ends_on","Board.__init__","able_on"]⟩
noncomputable def zH:Df:=⟨"able","able","",(ar 32),["plan","standing","wish"],["plan","standing","wish"],[],[],["flaw_ends","Board.family_of","Board.hands_beside","takeable","targets_of","posted","sendings","step_ends","hand_ends","ends_on","Board.__init__","able_on"]⟩
noncomputable def ri:Df:=⟨"law","law","",(ar 50),["_law_script","_law_plan_here","_law_due","_law_place","_law_wish","_law_found","_law_standing_here","_law_possible","_law_step_here","_law_some","_law_deed"],["_law_script"],["_law_found"],["_law_found","wishes_of"],["flaw_ends","Board.family_of","Board.hands_beside","takeable","targets_of","posted","sendings","step_ends","hand_ends","ends_on","Board.__init__","able_on"]⟩
noncomputable def Att:At:=[("Board",["families","homes","members","pairs","places"])]
noncomputable def Tb:List Df:=[mr,tw,oF,rg,oH,tu,oE,kG,re,nR,rf,ms,oB,lB,rh,oG,lA,rc,xw,rj,lz,q_,tt,u1,oJ,jE,oC,rk,qY,xt,iH,qZ,lC,mq,nQ,u0,q0,oD,oI,tz,nS,oK,xu,tB,tD,zH,ri]
noncomputable def Ph (n:Nat):Str->GF:=G' Gv Att Tb n
noncomputable def gi (x h:Str->GF):ES:=(ae (eO (bV (ab z8 (vv 1) (dU (aa 0)))) (aO (eV (ab am (vv 0) (vv 1)))) eW)
  (aO (eV (vi 0))))
theorem iU (n:Nat):Ph (n+2) "_law_cell_at"=cH 2 2 (gi (Ph (n+1)) (Ph n)):=by kernel_rfl
noncomputable def gS (x h:Str->GF):ES:=(ao 0 (eV (ab aK (vv 0) (vi 2147483648))))
noncomputable def jq (x h:Str->GF):ES:=(ae (eO (bV (ab GZ (vv 0) (ab Bp (vi 10) (vi 12)))) (ae (ao 0 (eV (ab rD (ab aK (vv 0) (ab Bp (vi 10) (vi 12))) (vi 1))))
  (ae (cb (gW (ab a_ (vv 1) (vi 61))) (ag 2) (gS x h))
  (aO (eV (ab a_ (vv 0) (vi 2147483648)))))) eW)
  (ae (ao 3 (eV (ab a_ (ab du (ab aG (ab aG (ab a_ (vv 0) (vi 1000003)) (ab du (ab du (vv 1) (vv 1)) (vi 7919))) (vv 1)) (vi 48271)) (vi 2147483629))))
  (ae (ao 3 (eV (ab a_ (ab du (vv 3) (vv 3)) (vi 2147483587))))
  (aO (eV (ab aK (ab a_ (ab du (vv 3) (ab aG (vv 3) (vi 2))) (vi 2147483579)) (vi 7)))))))
theorem lT (n:Nat):Ph (n+2) "_law_mix"=cH 2 4 (jq (Ph (n+1)) (Ph n)):=by kernel_rfl
noncomputable def de (h x:Str->GF):ES:=(ae (ao 8 (eV (af (pureOf (h "_law_mix")) (v2 (af (pureOf (h "_law_cell_at")) (v2 (vv 0) (vi 4))) (ab aG (ab aG (vi 30) (ab du (vi 4) (vv 4))) (vv 6))))))
  (eO (gX (bV (ab Ey (ab a_ (vv 8) (vi 4)) (vi 0))) (bV (ab z8 (dU (aa 3)) (vi 8)))) (ae (ao 9 (eV (ab am (aW (v2 (vt "row") (vt "heap"))) (ab a_ (ab aK (vv 8) (vi 4)) (vi 2)))))
  (bL (bu (aa 3) (eV (aF (v6 (vv 5) (vv 7) (vv 9) (ab aG (vi 1) (ab a_ (ab aK (vv 8) (vi 8)) (vv 2))) (aH d9 (eV (ab a_ (ab aK (vv 8) (vi 24)) (vi 3))) (eV (vi 1))) (aH d9 (eV (ab a_ (ab aK (vv 8) (vi 72)) (vi 3))) (eV (vi 1))))))))) eW))
noncomputable def fG (x h:Str->GF):ES:=(cb (ol (vv 1)) (aV [ag 6,ag 7]) (de x h))
noncomputable def jQ (x h:Str->GF):ES:=(ae (ao 3 (cy aS))
  (ae (cb (ol (vv 1)) (aV [ag 4,ag 5]) (fG x h))
  (aO (aa 3))))
theorem oq (n:Nat):Ph (n+2) "_law_roads"=cH 3 10 (jQ (Ph (n+1)) (Ph n)):=by kernel_rfl
noncomputable def kL (h x:Str->GF):ES:=(ae (ao 2 (eV (af (pureOf (h "_law_mix")) (v2 (af (pureOf (h "_law_cell_at")) (v2 (vv 0) (vi 1))) (vv 1)))))
  (aO (eV (ab aG (ab du (ab am (vt "abcdefghijklmnop") (vv 1)) (ab aG (vi 1) (ab a_ (vv 2) (vi 4)))) (ab am (vt "xyz") (ab a_ (ab aK (vv 2) (vi 4)) (vi 3)))))))
theorem qP (n:Nat):Ph (n+2) "_law_name"=cH 2 3 (kL (Ph (n+1)) (Ph n)):=by kernel_rfl
noncomputable def fH (h x:Str->GF):ES:=(ae (ao 5 (eV (af (pureOf (h "_law_mix")) (v2 (af (pureOf (h "_law_cell_at")) (v2 (vv 0) (ab aG (vi 2) (vv 1)))) (ab aG (vi 2) (vv 4))))))
  (ae (ao 6 (eV (ab am (aW (v4 (vi 0) (vi 0) (Cs u3 (vi 1)) (vi 5))) (ab a_ (vv 5) (vi 4)))))
  (ae (ao 7 (eV (ab aG (vv 6) (ab am (aW (v4 (vi 1) (vi 2) (vi 0) (vi 1))) (ab a_ (ab aK (vv 5) (vi 4)) (vi 4))))))
  (bL (bu (aa 3) (eV (aF (v4 (af (pureOf (h "_law_name")) (v2 (vv 0) (ab aG (vi 2) (vv 4)))) (vv 6) (vv 7) (ab aG (vv 6) (ab a_ (ab aK (vv 5) (vi 16)) (ab aG (ab rD (vv 7) (vv 6)) (vi 1))))))))))))
noncomputable def jS (h x:Str->GF):ES:=(ae (ao 3 (cy aS))
  (ae (cb (gW (ab a_ (af (pureOf (h "_law_mix")) (v2 (af (pureOf (h "_law_cell_at")) (v2 (vv 0) (ab aG (vi 2) (vv 1)))) (vi 1))) (ab aG (vv 2) (vi 1)))) (ag 4) (fH h x))
  (aO (aa 3))))
theorem ov (n:Nat):Ph (n+2) "_law_cells"=cH 3 8 (jS (Ph (n+1)) (Ph n)):=by kernel_rfl
noncomputable def dQ (x h:Str->GF):ES:=(ae (eO (wq (bV (aH d9 (aa 1) (eV (aW aS)))) (bV (aH d9 (eV (ab a_ (vv 0) (vi 5))) (eV (vi 0))))) (aO (eV (aF (v2 (vt "number") (ab a_ (ab aK (vv 0) (vi 5)) (vi 3)))))) eW)
  (ae (ao 2 (eV (aF (v2 (vt "name") (ab am (vv 1) (ab a_ (ab aK (vv 0) (vi 5)) (dU (aa 1))))))))
  (ae (eO (bV (aH d9 (eV (ab a_ (vv 0) (vi 5))) (eV (vi 1)))) (aO (aa 2)) eW)
  (ae (eO (bV (aH d9 (eV (ab a_ (vv 0) (vi 5))) (eV (vi 2)))) (aO (eV (aF (v3 (vt "plus") (vv 2) (aF (v2 (vt "number") (ab a_ (ab aK (vv 0) (vi 20)) (vi 3)))))))) eW)
  (ae (eO (bV (aH d9 (eV (ab a_ (vv 0) (vi 5))) (eV (vi 3)))) (aO (eV (aF (v3 (vt "minus") (aF (v3 (vt "times") (vv 2) (aF (v2 (vt "number") (ab a_ (ab aK (vv 0) (vi 20)) (vi 3)))))) (aF (v2 (vt "number") (ab a_ (ab aK (vv 0) (vi 60)) (vi 2)))))))) eW)
  (aO (eV (aF (v3 (vt "minus") (aF (v2 (vt "number") (vi 1))) (vv 2))))))))))
theorem eQ (n:Nat):Ph (n+2) "_law_sum"=cH 2 3 (dQ (Ph (n+1)) (Ph n)):=by kernel_rfl
noncomputable def bN (h x:Str->GF):ES:=(ae (ao 9 (eV (ab aK (vv 0) (ab am (aW (v3 (vi 4) (vi 1000) (vi 100000))) (vv 8)))))
  (ae (ao 10 (eV (af (pureOf (h "_law_sum")) (v2 (ab a_ (ab aK (vv 9) (vi 12)) (vi 300)) (vv 2)))))
  (ae (ao 11 (eV (ab am (aW (v2 (vt "ma") (vt "mb"))) (ab a_ (vv 9) (vi 2)))))
  (eO (gX (bV (aH mN (aa 3) (eV (aW aS)))) (bV (aH d9 (eV (ab a_ (ab aK (vv 9) (vi 2)) (vi 3))) (eV (vi 1))))) (bL (bu (aa 7) (eV (aF (v4 (vv 11) (vv 10) (vt "who") (ab am (vv 3) (ab a_ (ab aK (vv 9) (vi 50)) (dU (aa 3))))))))) (eO (bV (aH mN (aa 6) (eV (aW aS)))) (bL (bu (aa 7) (eV (aF (v4 (vv 11) (vv 10) (ab am (aW (v2 (vt "all") (vt "any"))) (ab du (ab a_ (ab aK (vv 9) (vi 6)) (vi 2)) (af bJ (v1 (ab z8 (vv 8) (vi 2)))))) (ab am (vv 6) (ab a_ (ab aK (vv 9) (vi 3)) (dU (aa 6))))))))) eW)))))
noncomputable def jP (x h:Str->GF):ES:=(ae (ao 6 (eV (aY (g6 (vv 4)) [] 1 (ag 12) (bV (aH d9 (eV (ab am (vv 12) (vi 0))) (aa 1))) (ab am (vv 12) (vi 1)))))
  (ae (ao 7 (cy aS))
  (ae (cb (gW (ab a_ (vv 0) (ab aG (vv 5) (vi 1)))) (ag 8) (bN x h))
  (aO (aa 7)))))
theorem oo (n:Nat):Ph (n+2) "_law_sends"=cH 6 12 (jP (Ph (n+1)) (Ph n)):=by kernel_rfl
noncomputable def b7 (h x:Str->GF):ES:=(ae (eO (wq (bV (aH d9 (aa 1) (eV (aW aS)))) (bV (ab z8 (ab a_ (vv 0) (vi 5)) (vi 2)))) (aO (eV (aF (v1 (vt "true"))))) eW)
  (ae (ao 2 (eV (ab am (aW (v6 (vt "=") (vt "!=") (vt "<") (vt "<=") (vt ">") (vt ">="))) (ab a_ (ab aK (vv 0) (vi 5)) (vi 6)))))
  (ae (ao 3 (eV (aF (v4 (vt "is") (vv 2) (aF (v2 (vt "name") (ab am (vv 1) (ab a_ (ab aK (vv 0) (vi 30)) (dU (aa 1)))))) (af (pureOf (h "_law_sum")) (v2 (ab aK (vv 0) (vi 90)) (vv 1)))))))
  (ae (eO (bV (aH d9 (eV (ab a_ (vv 0) (vi 5))) (eV (vi 2)))) (aO (eV (aF (v2 (vt "not") (vv 3))))) eW)
  (ae (eO (bV (aH d9 (eV (ab a_ (vv 0) (vi 5))) (eV (vi 3)))) (aO (eV (aF (v3 (vt "or") (vv 3) (aF (v3 (vt "and") (aF (v1 (vt "true"))) (aF (v4 (vt "is") (vt "=") (aF (v2 (vt "number") (vi 1))) (aF (v2 (vt "name") (ab am (vv 1) (vi 0)))))))))))) eW)
  (aO (aa 3)))))))
theorem cJ (n:Nat):Ph (n+2) "_law_condition"=cH 2 4 (b7 (Ph (n+1)) (Ph n)):=by kernel_rfl
noncomputable def aP (x h:Str->GF):ES:=(eO (gX (bV (aH mN (aa 7) (eV (aW aS)))) (bV (aH d9 (eV (ab a_ (ab am (vv 0) (vi 0)) (vi 3))) (eV (vi 1))))) (ae (ao 11 (eV (vt "")))
  (ae (eO (gX (bV (aH mN (aa 6) (eV (aW aS)))) (bV (aH d9 (eV (ab a_ (ab aK (ab am (vv 0) (vi 0)) (vi 3)) (vi 2))) (eV (vi 1))))) (ae (ao 11 (eV (ab am (vv 6) (Cs u3 (vi 1)))))
  (ao 9 (eV (j5 (vv 6) gI (gm (Cs u3 (vi 1))))))) eW)
  (ae (ao 12 (eV (vt "")))
  (ae (eO (gX (bV (aH mN (aa 4) (eV (aW aS)))) (bV (aH d9 (eV (ab a_ (ab aK (ab am (vv 0) (vi 0)) (vi 6)) (vi 2))) (eV (vi 1))))) (ao 12 (eV (ab am (vv 4) (ab a_ (ab aK (ab am (vv 0) (vi 0)) (vi 200)) (dU (aa 4)))))) eW)
  (ae (ao 8 (eV (aF (v4 (ab am (aW (v2 (vt "ma") (vt "mb"))) (ab a_ (ab aK (ab am (vv 0) (vi 0)) (vi 12)) (vi 2))) (ab am (vv 7) (ab a_ (ab aK (ab am (vv 0) (vi 0)) (vi 24)) (dU (aa 7)))) (vv 11) (vv 12)))))
  (ao 10 (eV (aW (v1 (vt "it")))))))))) eW)
noncomputable def eH (h x:Str->GF):ES:=(eO (bV (aH d9 (eV (ab a_ (ab aK (ab am (vv 0) (vi 1)) (ab am (aW (v3 (vi 1) (vi 1000) (vi 1000000))) (vv 14))) (vi 2))) (eV (vi 1)))) (bL (bu (aa 13) (eV (aF (v2 (vv 15) (af (pureOf (h "_law_sum")) (v2 (ab a_ (ab aK (ab am (vv 0) (vi 1)) (ab am (aW (v3 (vi 2) (vi 2000) (vi 2000000))) (vv 14))) (vi 300)) (ab aG (vv 6) (vv 10))))))))) eW)
noncomputable def kK (h x:Str->GF):ES:=(ae (ao 6 (eV (aY (g6 (vv 3)) [] 1 (ag 18) eT (ab am (vv 18) (vi 0)))))
  (ae (ao 7 (eV (aY (g6 (vv 5)) [] 1 (ag 18) (bV (aH d9 (eV (ab am (vv 18) (vi 1))) (aa 1))) (ab am (vv 18) (vi 0)))))
  (ae (ao 8 (eV (vC (.non))))
  (ae (ao 9 (eV (af lH (v1 (vv 6)))))
  (ae (ao 10 (eV (aW aS)))
  (ae (aP h x)
  (ae (ao 13 (cy aS))
  (ae (cb (ol (vv 9)) (aV [ag 14,ag 15]) (eH h x))
  (ae (ao 16 (eV (af (pureOf (h "_law_sends")) (v6 (ab am (vv 0) (vi 2)) (vv 1) (ab aG (vv 6) (vv 10)) (vv 4) (vv 5) (ab aG (vi 2) (af bJ (v1 (ab Ey (dU (aa 2)) (vi 3)))))))))
  (ae (ao 17 (eV (af (pureOf (h "_law_condition")) (v2 (ab a_ (ab am (vv 0) (vi 3)) (vi 27000)) (vv 6)))))
  (aO (eV (aF (v6 (ab am (vv 2) (ab a_ (ab aK (ab am (vv 0) (vi 3)) (vi 27000)) (dU (aa 2)))) (vv 17) (vv 8) (vv 13) (vv 16) (ab am (vv 2) (ab a_ (ab aK (ab am (vv 0) (vi 3)) (vi 216000)) (dU (aa 2))))))))))))))))))
theorem qN (n:Nat):Ph (n+2) "_law_step"=cH 6 18 (kK (Ph (n+1)) (Ph n)):=by kernel_rfl
noncomputable def fh (h x:Str->GF):ES:=(ae (ao 12 (eV (ab du (vi 4) (ab aG (ab du (vi 8) (vv 1)) (vv 11)))))
  (ae (ao 7 (eV (aY (gW (vi 4)) [] 1 (ag 13) eT (af (pureOf (h "_law_mix")) (v2 (af (pureOf (h "_law_cell_at")) (v2 (vv 0) (ab aG (vi 5) (ab a_ (ab aG (vv 12) (vv 13)) (vi 24))))) (ab aG (ab aG (vi 11) (vv 12)) (vv 13)))))))
  (bL (bu (aa 10) (eV (ab aG (aF (v1 (af (pureOf (h "_law_name")) (v2 (vv 0) (ab aG (vi 8) (vv 11)))))) (af (pureOf (h "_law_step")) (v6 (vv 7) (vv 2) (vv 8) (vv 6) (vv 9) (vv 5)))))))))
noncomputable def jr (h x:Str->GF):ES:=(ae (ao 6 (eV (af (pureOf (h "_law_cells")) (v3 (vv 0) (vv 1) (ab aG (vi 2) (af bJ (v1 (vv 4))))))))
  (ae (ao 7 (eV (af (pureOf (h "_law_mix")) (v2 (af (pureOf (h "_law_cell_at")) (v2 (vv 0) (ab aG (vi 2) (vv 1)))) (vi 9)))))
  (ae (ao 8 (eV (aY (gW (ab aG (vi 1) (ab a_ (vv 7) (ab am (aW (v2 (vi 3) (vi 8))) (af bJ (v1 (vv 4))))))) [11] 0 (ag 11) eT (af (pureOf (h "_law_name")) (v2 (vv 0) (ab aG (vi 4) (vv 11)))))))
  (ae (ao 7 (eV (af (pureOf (h "_law_mix")) (v2 (af (pureOf (h "_law_cell_at")) (v2 (vv 0) (ab aG (vi 2) (vv 1)))) (vi 8)))))
  (ae (ao 9 (eV (aY (gW (ab a_ (vv 7) (ab aG (vi 2) (af bJ (v1 (vv 4)))))) [11] 0 (ag 11) eT (af (pureOf (h "_law_name")) (v2 (vv 0) (ab aG (vi 10) (vv 11)))))))
  (ae (ao 10 (cy aS))
  (ae (cb (gW (ab aG (vi 1) (ab a_ (af (pureOf (h "_law_mix")) (v2 (af (pureOf (h "_law_cell_at")) (v2 (vv 0) (ab aG (vi 2) (vv 1)))) (vi 7))) (ab am (aW (v2 (vi 3) (vi 8))) (af bJ (v1 (vv 4))))))) (ag 11) (fh h x))
  (aO (eV (aF (v6 (vv 2) (vv 3) (vv 8) (vv 6) (vv 9) (vv 10))))))))))))
theorem nK (n:Nat):Ph (n+2) "_law_family"=cH 6 13 (jr (Ph (n+1)) (Ph n)):=by kernel_rfl
noncomputable def gh (h x:Str->GF):ES:=(ae (ao 10 (eV (ab aG (vi 1) (ab a_ (ab aK (vv 2) (ab am (aW (v4 (vi 4) (vi 12) (vi 16) (vi 16))) (vv 8))) (ab am (aW (v4 (ab aG (vv 1) (af bJ (v1 (vv 3)))) (vi 2) (vi 1) (vi 1))) (ab rD (vv 4) (vi 1)))))))
  (bL (bu (aa 7) (eV (af (pureOf (h "_law_family")) (v6 (vv 0) (vv 8) (vv 9) (vv 10) (vv 3) (vv 6)))))))
noncomputable def gg (h x:Str->GF):ES:=(ae (ao 12 (eV (af (pureOf (h "_law_mix")) (v2 (af (pureOf (h "_law_cell_at")) (v2 (vv 0) (vi 4))) (ab aG (vi 20) (vv 8))))))
  (ae (ao 13 (t3 (aa 7) (ab a_ (vv 12) (vv 4))))
  (bL (bu (aa 11) (eV (aF (v3 (ab am (aW (v2 (vt "weak") (vt "strong"))) (ab a_ (ab aK (vv 12) (vi 4)) (vi 2))) (ab am (vv 13) (vi 0)) (ab am (ab am (ab am (vv 13) (vi 5)) (ab a_ (ab aK (vv 12) (vi 8)) (dU (eV (ab am (vv 13) (vi 5)))))) (vi 0)))))))))
noncomputable def iK (h x:Str->GF):ES:=(ae (ao 2 (eV (af (pureOf (h "_law_cell_at")) (v2 (vv 0) (vi 0)))))
  (ae (ao 3 (eV (aH d9 (eV (ab a_ (ab aK (vv 2) (vi 64)) (vi 8))) (eV (vi 1)))))
  (ae (ao 4 (eV (ab aG (vi 1) (ab a_ (vv 2) (ab am (aW (v2 (vi 2) (vi 4))) (af bJ (v1 (vv 3))))))))
  (ae (ao 5 (eV (aY (gW (vv 4)) [8] 0 (ag 8) eT (af (pureOf (h "_law_name")) (v2 (vv 0) (vv 8))))))
  (ae (ao 6 (eV (af (pureOf (h "_law_roads")) (v3 (vv 0) (vv 5) (ab aG (vi 2) (af bJ (v1 (vv 3))))))))
  (ae (ao 7 (cy aS))
  (ae (cb (ol (vv 5)) (aV [ag 8,ag 9]) (gh h x))
  (ae (ao 11 (cy aS))
  (ae (cb (gW (ab aG (ab a_ (ab aK (vv 2) (vi 48)) (vi 3)) (ab du (vi 4) (af bJ (v1 (vB (gX (bV (vv 3)) (bV (aH d9 (eV (ab a_ (vv 2) (vi 3))) (eV (vi 1))))))))))) (ag 8) (gg h x))
  (aO (eV (aF (v3 (vv 7) (vv 6) (vv 11))))))))))))))
theorem qO (n:Nat):Ph (n+2) "_law_plan"=cH 2 14 (iK (Ph (n+1)) (Ph n)):=by kernel_rfl
noncomputable def eM (x h:Str->GF):ES:=(bL (dH (aa 1) (ab du (aW (v1 (vv 2))) (ab am (vv 3) (vi 1)))))
noncomputable def iX (x h:Str->GF):ES:=(ae (ao 1 (cy aS))
  (ae (cb (ol (ab am (vv 0) (vi 0))) (aV [ag 2,ag 3]) (eM x h))
  (aO (aa 1))))
theorem mj (n:Nat):Ph (n+2) "families_of"=cH 1 4 (iX (Ph (n+1)) (Ph n)):=by kernel_rfl
noncomputable def fD (x h:Str->GF):ES:=(bL (dH (aa 2) (aY (gW (dU (aa 1))) [] 1 (ag 5) (bV (aH d9 (eV (ab am (ab am (ab am (vv 0) (vi 0)) (ab am (vv 1) (vv 5))) (vi 0))) (eV (ab am (vv 4) (vi 1))))) (aF (v2 (vv 3) (vv 5))))))
noncomputable def jO (h x:Str->GF):ES:=(ae (ao 1 (eV (af (pureOf (h "families_of")) (v1 (vv 0)))))
  (ae (ao 2 (cy aS))
  (ae (cb (ol (ab am (vv 0) (vi 2))) (aV [ag 3,ag 4]) (fD h x))
  (aO (aa 2)))))
theorem on (n:Nat):Ph (n+2) "wishes_of"=cH 1 5 (jO (Ph (n+1)) (Ph n)):=by kernel_rfl
noncomputable def d7 (x h:Str->GF):ES:=(ao 1 (eV (ab aG (vv 1) (ab du (aW (v1 (vv 2))) (ab am (vv 2) (vi 1))))))
noncomputable def ij (x h:Str->GF):ES:=(ae (ao 1 (eV (aW aS)))
  (ae (cb (g6 (ab am (vv 0) (vi 0))) (ag 2) (d7 x h))
  (aO (aa 1))))
theorem ly (n:Nat):Ph (n+2) "_law_families"=cH 1 3 (ij (Ph (n+1)) (Ph n)):=by kernel_rfl
noncomputable def kM (h x:Str->GF):ES:=(aO (eV (aY (ol (af (pureOf (h "_law_families")) (v1 (vv 0)))) [] 2 (aV [ag 2,ag 3]) (bV (aH d9 (eV (ab am (vv 3) (vi 0))) (aa 1))) (vv 2))))
theorem qQ (n:Nat):Ph (n+2) "_law_crew"=cH 2 2 (kM (Ph (n+1)) (Ph n)):=by kernel_rfl
noncomputable def dY (x h:Str->GF):ES:=(eO (bV (aH mN (aa 3) (aa 4))) (bL (bu (aa 1) (eV (aF (v3 (vv 2) (vv 3) (vv 4)))))) eW)
noncomputable def ii (h x:Str->GF):ES:=(cb (g6 (af (pureOf (h "_law_crew")) (v2 (vv 0) (ab am (vv 2) (vi 1))))) (ag 4) (dY h x))
noncomputable def ig (h x:Str->GF):ES:=(cb (g6 (af (pureOf (h "_law_crew")) (v2 (vv 0) (ab am (vv 2) (vi 0))))) (ag 3) (ii h x))
noncomputable def jR (x h:Str->GF):ES:=(ae (ao 1 (cy aS))
  (ae (cb (g6 (ab am (vv 0) (vi 1))) (ag 2) (ig x h))
  (aO (aa 1))))
theorem ou (n:Nat):Ph (n+2) "_law_pairs"=cH 1 5 (jR (Ph (n+1)) (Ph n)):=by kernel_rfl
noncomputable def cW (x h:Str->GF):ES:=(bL (bu (aa 7) (eV (ab aG (ab am (vv 9) (vi 1)) (ab a_ (ab aK (vv 6) (ab am (aW (v3 (vi 8) (vi 32) (vi 128))) (vv 8))) (ab aG (ab rD (ab am (vv 9) (vi 2)) (ab am (vv 9) (vi 1))) (vi 1)))))))
noncomputable def cV (x h:Str->GF):ES:=(bL (bu (aa 10) (eV (ab rD (ab a_ (ab aK (vv 6) (ab am (aW (v2 (vi 512) (vi 4096))) (vv 8))) (ab aG (dU (aa 3)) (vi 1))) (vi 1)))))
noncomputable def cU (h x:Str->GF):ES:=(ae (ao 6 (eV (af (pureOf (h "_law_mix")) (v2 (af (pureOf (h "_law_cell_at")) (v2 (vv 0) (ab aG (vi 29) (vv 4)))) (vi 31)))))
  (ae (ao 7 (cy aS))
  (ae (cb (ol (ab am (vv 5) (vi 3))) (aV [ag 8,ag 9]) (cW h x))
  (ae (ao 10 (cy aS))
  (ae (cb (gW (dU (eV (ab am (vv 5) (vi 4))))) (ag 8) (cV h x))
  (bL (bu (aa 2) (eV (aF (v3 (ab a_ (vv 6) (dU (eV (ab am (vv 5) (vi 2))))) (af bK (v1 (vv 7))) (af bK (v1 (vv 10)))))))))))))
noncomputable def cT (x h:Str->GF):ES:=(ae (ao 15 (eV (ab aG (ab rD (ab a_ (ab aK (vv 6) (ab am (aW (v3 (vi 8) (vi 800) (vi 80000))) (vv 8))) (vi 4)) (vi 1)) (ab am (aW (v4 (vi 0) (vi 997) (vi 0) (Cs u3 (vi 998)))) (ab a_ (ab aK (vv 6) (vi 8000000)) (vi 4))))))
  (bL (bu (aa 14) (eV (aF (v2 (ab am (aW (v2 (vt "ma") (vt "mb"))) (ab a_ (ab aK (vv 6) (ab am (aW (v3 (vi 4) (vi 400) (vi 40000))) (vv 8))) (vi 2))) (vv 15)))))))
noncomputable def cS (h x:Str->GF):ES:=(ae (ao 6 (eV (af (pureOf (h "_law_mix")) (v2 (af (pureOf (h "_law_cell_at")) (v2 (vv 0) (ab aG (vi 34) (ab a_ (vv 12) (vi 20))))) (ab aG (vi 33) (ab aK (vv 12) (vi 20)))))))
  (ae (ao 14 (cy aS))
  (ae (cb (gW (ab a_ (vv 6) (ab aG (ab am (ab am (vv 13) (vi 0)) (vi 3)) (vi 1)))) (ag 8) (cT h x))
  (ae (eO (bV (aH d9 (eV (ab am (ab am (vv 13) (vi 0)) (vi 2))) (eV (vt "heap")))) (ao 14 (eV (oS (aa 14)))) eW)
  (bL (bu (aa 11) (eV (af bK (v1 (vv 14))))))))))
noncomputable def fF (h x:Str->GF):ES:=(ae (ao 2 (cy aS))
  (ae (ao 3 (eV (af (pureOf (h "_law_families")) (v1 (vv 1)))))
  (ae (cb (ol (vv 3)) (aV [ag 4,ag 5]) (cU h x))
  (ae (ao 11 (cy aS))
  (ae (cb (ol (af (pureOf (h "_law_pairs")) (v1 (vv 1)))) (aV [ag 12,ag 13]) (cS h x))
  (aO (eV (aF (v2 (af bK (v1 (vv 2))) (af bK (v1 (vv 11))))))))))))
theorem lx (n:Nat):Ph (n+2) "_law_standing"=cH 2 16 (fF (Ph (n+1)) (Ph n)):=by kernel_rfl
noncomputable def eG (x h:Str->GF):ES:=(eO (bV (aH d9 (aa 5) (eV (ab am (vv 3) (vi 0))))) (ae (ao 6 (eV (aY (gW (dU (aa 1))) [] 1 (ag 7) (gX (bV (aH mN (aa 7) (aa 4))) (bV (aH d9 (eV (ab am (vv 1) (vv 7))) (eV (ab am (vv 3) (vi 1)))))) (vv 7))))
  (bL (dH (aa 2) (aY (g6 (vv 6)) [] 1 (ag 7) eT (aF (v3 (vv 3) (vv 4) (vv 7))))))) eW)
noncomputable def iW (x h:Str->GF):ES:=(cb (ol (vv 1)) (aV [ag 4,ag 5]) (eG x h))
noncomputable def kJ (h x:Str->GF):ES:=(ae (ao 1 (eV (aY (g6 (af (pureOf (h "families_of")) (v1 (vv 0)))) [] 1 (ag 7) eT (ab am (ab am (ab am (vv 0) (vi 0)) (vv 7)) (vi 0)))))
  (ae (ao 2 (cy aS))
  (ae (cb (g6 (ab am (vv 0) (vi 1))) (ag 3) (iW h x))
  (aO (aa 2)))))
theorem qM (n:Nat):Ph (n+2) "pairs_of"=cH 1 7 (kJ (Ph (n+1)) (Ph n)):=by kernel_rfl
noncomputable def iP (x h:Str->GF):ES:=(ae (ao 3 (eV (ab am (ab am (ab am (vv 0) (vi 0)) (vv 2)) (vi 3))))
  (ae (ao 4 (eV (ab am (ab am (ab am (vv 0) (vi 0)) (vv 2)) (vi 4))))
  (bL (bu (aa 1) (eV (aF (v3 (vi 0) (af bK (v1 (aY (g6 (vv 3)) [] 1 (ag 5) eT (ab am (vv 5) (vi 3))))) (ab du (aF (v1 (vi (-1)))) (dU (aa 4))))))))))
noncomputable def pE (h x:Str->GF):ES:=(ae (ao 1 (cy aS))
  (ae (cb (g6 (af (pureOf (h "families_of")) (v1 (vv 0)))) (ag 2) (iP h x))
  (aO (eV (aF (v2 (af bK (v1 (vv 1))) (ab du (aF (v1 (aF aS))) (dU (eV (af (pureOf (h "pairs_of")) (v1 (vv 0))))))))))))
theorem xn (n:Nat):Ph (n+2) "begin"=cH 1 5 (pE (Ph (n+1)) (Ph n)):=by kernel_rfl
noncomputable def iO (x h:Str->GF):ES:=(ae (eO (bV (aH d9 (aa 1) (eV (vt "lose")))) (aO (eV (ab am (vv 0) (vi 4)))) eW)
  (aO (eV (vB (gX (bV (ab am (vv 0) (vi 5))) (bV (ab z8 (dU (aa 2)) (ab am (vv 0) (vi 3)))))))))
theorem kF (n:Nat):Ph (n+2) "has_flaw"=cH 3 3 (iO (Ph (n+1)) (Ph n)):=by kernel_rfl
noncomputable def ck (x h:Str->GF):ES:=(ae (ao 2 (eV (Ei (dU (aa 1)))))
  (ae (eO (bV (aH d9 (aa 0) (eV (vt "row")))) (aO (aa 2)) eW)
  (aO (eV (aY (g6 (vv 2)) [] 1 (ag 3) (bV (aH d9 (eV (n2 (vv 1) (ab am (vv 1) (vv 3)))) (aa 3))) (vv 3))))))
theorem c_ (n:Nat):Ph (n+2) "unlike_spots"=cH 2 3 (ck (Ph (n+1)) (Ph n)):=by kernel_rfl
noncomputable def fg (x h:Str->GF):ES:=(aO (eV (ab aG (ab aG (j5 (vv 0) gI (gm (vv 1))) (aF (v1 (vv 2)))) (j5 (vv 0) (gm (ab aG (vv 1) (vi 1))) gI))))
theorem gw (n:Nat):Ph (n+2) "replaced"=cH 3 3 (fg (Ph (n+1)) (Ph n)):=by kernel_rfl
noncomputable def fR (x h:Str->GF):ES:=(aO (eV (ab aG (j5 (vv 0) gI (gm (vv 1))) (j5 (vv 0) (gm (ab aG (vv 1) (vi 1))) gI))))
theorem g8 (n:Nat):Ph (n+2) "without"=cH 2 2 (fR (Ph (n+1)) (Ph n)):=by kernel_rfl
noncomputable def kg (h x:Str->GF):ES:=(ae (eO (bV (aH d9 (aa 0) (eV (vt "lose")))) (aO (eV (af (pureOf (h "without")) (v2 (vv 1) (vv 2))))) eW)
  (aO (eV (ab aG (j5 (vv 1) gI (gm (ab aG (vv 2) (vi 1)))) (j5 (vv 1) (gm (vv 2)) gI)))))
theorem nL (n:Nat):Ph (n+2) "flawed"=cH 3 3 (kg (Ph (n+1)) (Ph n)):=by kernel_rfl
noncomputable def fJ (h x:Str->GF):ES:=(ae (ao 11 (eV (af (pureOf (h "replaced")) (v3 (ab am (vv 1) (vi 1)) (vv 4) (af (pureOf (h "flawed")) (v3 (vv 2) (vv 9) (vv 10)))))))
  (bL (bu (aa 3) (eV (aF (v2 (aF (v4 (vv 2) (vv 7) (vv 8) (vv 10))) (aF (v2 (ab am (vv 1) (vi 0)) (vv 11)))))))))
noncomputable def dZ (h x:Str->GF):ES:=(ae (qo (aV [ag 6,ag 7,ag 8]) (vv 5))
  (ae (ao 9 (eV (ab am (ab am (vv 1) (vi 1)) (vv 4))))
  (eO (bT (eV (af (pureOf (h "has_flaw")) (v3 (vv 6) (vv 2) (vv 9))))) (cb (g6 (af (pureOf (h "unlike_spots")) (v2 (ab am (vv 6) (vi 2)) (vv 9)))) (ag 10) (fJ h x)) eW)))
noncomputable def hY (x h:Str->GF):ES:=(ae (ao 3 (cy aS))
  (ae (cb (ol (vE (dP (aT Att) (aa 0) "pairs"))) (aV [ag 4,ag 5]) (dZ x h))
  (aO (aa 3))))
theorem ow (n:Nat):Ph (n+2) "flaw_ends"=cH 3 12 (hY (Ph (n+1)) (Ph n)):=by kernel_rfl
noncomputable def cX (x h:Str->GF):ES:=(aO (t3 (dP (aT Att) (aa 0) "families") (vE (t3 (dP (aT Att) (aa 0) "homes") (vv 1)))))
theorem cd (n:Nat):Ph (n+2) "Board.family_of"=cH 2 2 (cX (Ph (n+1)) (Ph n)):=by kernel_rfl
noncomputable def ei (x h:Str->GF):ES:=(aO (qR (aY (g6 (ab am (vv 0) (vi 3))) [] 1 (ag 2) eT (ab am (vv 2) (vi 0))) (vv 1)))
theorem fN (n:Nat):Ph (n+2) "values_of"=cH 2 2 (ei (Ph (n+1)) (Ph n)):=by kernel_rfl
noncomputable def bY (x h:Str->GF):ES:=(ae (eO (bV (aH d9 (aa 0) (eV (vt "=")))) (aO (eV (aH d9 (aa 1) (aa 2)))) eW)
  (ae (eO (bV (aH d9 (aa 0) (eV (vt "!=")))) (aO (eV (aH mN (aa 1) (aa 2)))) eW)
  (ae (eO (bV (aH d9 (aa 0) (eV (vt "<")))) (aO (eV (ab z8 (vv 1) (vv 2)))) eW)
  (ae (eO (bV (aH d9 (aa 0) (eV (vt "<=")))) (aO (eV (ab GY (vv 1) (vv 2)))) eW)
  (ae (eO (bV (aH d9 (aa 0) (eV (vt ">")))) (aO (eV (ab Ey (vv 1) (vv 2)))) eW)
  (aO (eV (ab GZ (vv 1) (vv 2)))))))))
theorem gx (n:Nat):Ph (n+2) "compared"=cH 3 3 (bY (Ph (n+1)) (Ph n)):=by kernel_rfl
noncomputable def bW (h x:Str->GF):ES:=(ae (ao 2 (eV (ab am (vv 0) (vi 0))))
  (ae (eO (bV (aH d9 (aa 2) (eV (vt "number")))) (aO (eV (ab am (vv 0) (vi 1)))) eW)
  (ae (eO (bV (aH d9 (aa 2) (eV (vt "name")))) (aO (eV (ab am (vv 1) (ab am (vv 0) (vi 1))))) eW)
  (ae (ao 3 (eV (af (pureOf (h "value_of")) (v2 (ab am (vv 0) (vi 1)) (vv 1)))))
  (ae (ao 4 (eV (af (pureOf (h "value_of")) (v2 (ab am (vv 0) (vi 2)) (vv 1)))))
  (ae (eO (bV (aH d9 (aa 2) (eV (vt "plus")))) (aO (eV (ab aG (vv 3) (vv 4)))) eW)
  (ae (eO (bV (aH d9 (aa 2) (eV (vt "minus")))) (aO (eV (ab rD (vv 3) (vv 4)))) eW)
  (aO (eV (ab du (vv 3) (vv 4)))))))))))
theorem cI (n:Nat):Ph (n+2) "value_of"=cH 2 5 (bW (Ph (n+1)) (Ph n)):=by kernel_rfl
noncomputable def dC (h x:Str->GF):ES:=(ae (ao 2 (eV (ab am (vv 0) (vi 0))))
  (ae (eO (bV (aH d9 (aa 2) (eV (vt "true")))) (aO (eV (vC (.bl true)))) eW)
  (ae (eO (bV (aH d9 (aa 2) (eV (vt "not")))) (aO (eV (vB (mw (bV (af (pureOf (h "holds")) (v2 (ab am (vv 0) (vi 1)) (vv 1)))))))) eW)
  (ae (eO (bV (aH d9 (aa 2) (eV (vt "and")))) (aO (eV (vB (gX (bV (af (pureOf (h "holds")) (v2 (ab am (vv 0) (vi 1)) (vv 1)))) (bV (af (pureOf (h "holds")) (v2 (ab am (vv 0) (vi 2)) (vv 1)))))))) eW)
  (ae (eO (bV (aH d9 (aa 2) (eV (vt "or")))) (aO (eV (vB (wq (bV (af (pureOf (h "holds")) (v2 (ab am (vv 0) (vi 1)) (vv 1)))) (bV (af (pureOf (h "holds")) (v2 (ab am (vv 0) (vi 2)) (vv 1)))))))) eW)
  (aO (eV (af (pureOf (h "compared")) (v3 (ab am (vv 0) (vi 1)) (af (pureOf (h "value_of")) (v2 (ab am (vv 0) (vi 2)) (vv 1))) (af (pureOf (h "value_of")) (v2 (ab am (vv 0) (vi 3)) (vv 1))))))))))))
theorem eR (n:Nat):Ph (n+2) "holds"=cH 2 3 (dC (Ph (n+1)) (Ph n)):=by kernel_rfl
noncomputable def bD (x h:Str->GF):ES:=(aO (eV (aY (g6 (vE (t3 (dP (aT Att) (aa 0) "members") (vv 2)))) [] 1 (ag 3) (bV (aH mN (aa 3) (aa 1))) (vv 3))))
theorem cf (n:Nat):Ph (n+2) "Board.hands_beside"=cH 3 3 (bD (Ph (n+1)) (Ph n)):=by kernel_rfl
noncomputable def dw (h x:Str->GF):ES:=(ae (ao 6 (uU (dP (aT Att) (aa 0) "places") (v2 (vv 5) (vv 2))))
  (ae (ao 7 (t3 (t3 (t3 (dP (aT Att) (aa 0) "pairs") (vv 6)) (vi 0)) (vi 2)))
  (ae (ao 8 (eV (ab am (vv 1) (vv 6))))
  (ae (ao 9 (eV (BJ (bV (aH d9 (aa 7) (eV (vt "row")))) (j5 (Ei (dU (aa 8))) gI (gm (vi 1))) (af (pureOf (h "unlike_spots")) (v2 (vv 7) (vv 8))))))
  (bL (dH (aa 4) (aY (g6 (vv 9)) [] 1 (ag 10) (bV (aH d9 (eV (ab am (ab am (vv 8) (vv 10)) (vi 0))) (eV (ab am (vv 3) (vi 0))))) (aF (v2 (vv 5) (vv 10))))))))))
noncomputable def dn (h x:Str->GF):ES:=(ae (eO (bV (aH rW (aa 3) (eV (vC (.non))))) (aO (eV (aW (v1 (vC (.non)))))) eW)
  (ae (ao 4 (cy aS))
  (ae (cb (g6 (vE (dG (mT Tb h) (aa 0) "hands_beside" (ac (aa 2) (ac (eV (ab am (vv 3) (vi 1))) bf))))) (ag 5) (dw h x))
  (aO (aa 4)))))
theorem ff (n:Nat):Ph (n+2) "takeable"=cH 4 10 (dn (Ph (n+1)) (Ph n)):=by kernel_rfl
noncomputable def d8 (h x:Str->GF):ES:=(fm (aa 4) (vv 5) (af (pureOf (h "value_of")) (v2 (vv 6) (vv 3))))
noncomputable def aM (x h:Str->GF):ES:=(ae (ao 10 (eV (vn (vv 4) (ab am (vv 9) (vi 0)) (ab am (vv 1) (vv 8)))))
  (ae (eO (gX (bV (aH z7 (eV (ab am (vv 9) (vi 0))) (aa 4))) (mw (bV (k_ GY GY (ab am (vv 9) (vi 1)) (vv 10) (ab am (vv 9) (vi 2)))))) (aO (eV (vC (.non)))) eW)
  (bL (bu (aa 7) (aa 10)))))
noncomputable def bO (x h:Str->GF):ES:=(ae (ao 4 lU)
  (ae (cb (g6 (ab am (vv 2) (vi 4))) (aV [ag 5,ag 6]) (d8 x h))
  (ae (eO (gX (bV (aH dm (eV (ab am (vv 2) (vi 3))) (eV (vC (.non))))) (bV (aH mN (eV (ab am (ab am (vv 2) (vi 3)) (vi 2))) (eV (vt ""))))) (fm (aa 4) (ab am (ab am (vv 2) (vi 3)) (vi 2)) (ab am (vv 3) (vt "it"))) eW)
  (ae (ao 7 (cy aS))
  (ae (cb (ol (ab am (vv 0) (vi 3))) (aV [ag 8,ag 9]) (aM x h))
  (aO (eV (af bK (v1 (vv 7))))))))))
theorem dc (n:Nat):Ph (n+2) "cells_behind"=cH 4 11 (bO (Ph (n+1)) (Ph n)):=by kernel_rfl
noncomputable def bH (h x:Str->GF):ES:=(ae (eO (wq (bV (aH rW (aa 2) (eV (vC (.non))))) (bV (aH d9 (eV (ab am (vv 2) (vi 3))) (eV (vt ""))))) (aO (aa 1)) eW)
  (aO (eV (af (pureOf (h "replaced")) (v3 (vv 1) (n2 (ab am (vv 0) (vi 4)) (ab am (vv 2) (vi 3))) (ab am (vv 3) (vi 0)))))))
theorem cE (n:Nat):Ph (n+2) "whos_behind"=cH 4 4 (bH (Ph (n+1)) (Ph n)):=by kernel_rfl
noncomputable def b6 (h x:Str->GF):ES:=(ae (eO (bV (aH d9 (aa 2) (eV (vt "who")))) (aO (eV (aW (v1 (aF (v2 (aF aS) (aW (v1 (ab am (vv 4) (n2 (ab am (vE (dG (mT Tb h) (aa 0) "family_of" (ac (aa 1) bf))) (vi 4)) (vv 3))))))))))) eW)
  (ae (ao 5 (dG (mT Tb h) (aa 0) "hands_beside" (ac (aa 1) (ac (aa 3) bf))))
  (ae (eO (bV (aH d9 (aa 2) (eV (vt "all")))) (aO (eV (aW (v1 (aF (v2 (aF aS) (vv 5))))))) eW)
  (aO (eV (aY (g6 (vv 5)) [] 1 (ag 6) eT (aF (v2 (aF (v1 (vv 6))) (aW (v1 (vv 6)))))))))))
theorem db (n:Nat):Ph (n+2) "targets_of"=cH 5 6 (b6 (Ph (n+1)) (Ph n)):=by kernel_rfl
noncomputable def ey (h x:Str->GF):ES:=(ae (ao 6 (s_ (dP (aT Att) (aa 0) "places") (v2 (vv 2) (vv 5))))
  (ae (eO (wq (bV (aH rW (aa 6) (eV (vC (.non))))) (bV (ab Ey (af lZ (v1 (ab am (vv 4) (vi 1)))) (vi 999)))) (aO (eV (vC (.non)))) eW)
  (ae (ao 7 (t3 (t3 (dP (aT Att) (aa 0) "pairs") (vv 6)) (vi 0)))
  (ae (eO (bV (ab GZ (dU (eV (ab am (vv 1) (vv 6)))) (ab am (vv 7) (vi 3)))) (aO (eV (vC (.non)))) eW)
  (ae (ao 8 (eV (ab aG (ab am (vv 1) (vv 6)) (aF (v1 (vv 4))))))
  (ae (eO (bV (aH d9 (eV (ab am (vv 7) (vi 2))) (eV (vt "heap")))) (ao 8 (eV (af bK (v1 (oS (aa 8)))))) eW)
  (ao 1 (eV (af (pureOf (h "replaced")) (v3 (vv 1) (vv 6) (vv 8)))))))))))
noncomputable def eL (x h:Str->GF):ES:=(ae (cb (g6 (vv 3)) (ag 5) (ey x h))
  (aO (aa 1)))
theorem gR (n:Nat):Ph (n+2) "posted"=cH 5 9 (eL (Ph (n+1)) (Ph n)):=by kernel_rfl
noncomputable def eF (h x:Str->GF):ES:=(ae (ao 17 (eV (cB (h "posted") (ac (aa 0) (ac (aa 14) (ac (aa 1) (ac (aa 16) (ac (aa 11) bf))))))))
  (eO (bV (aH dm (aa 17) (eV (vC (.non))))) (bL (bu (aa 12) (eV (aF (v2 (ab aG (vv 13) (vv 15)) (vv 17)))))) eW))
noncomputable def eE (h x:Str->GF):ES:=(cb (g6 (cB (h "targets_of") (ac (aa 0) (ac (aa 1) (ac (aa 9) (ac (aa 10) (ac (aa 5) bf))))))) (aV [ag 15,ag 16]) (eF h x))
noncomputable def eD (h x:Str->GF):ES:=(ae (ao 11 (eV (aF (v2 (vv 7) (af (pureOf (h "value_of")) (v2 (vv 8) (vv 3)))))))
  (ae (ao 12 (cy aS))
  (ae (cb (g6 (vv 6)) (aV [ag 13,ag 14]) (eE h x))
  (ao 6 (aa 12)))))
noncomputable def dX (x h:Str->GF):ES:=(ae (ao 6 (eV (aW (v1 (aF (v2 (aF aS) (vv 4)))))))
  (ae (cb (g6 (vv 2)) (aV [ag 7,ag 8,ag 9,ag 10]) (eD x h))
  (aO (aa 6))))
theorem gu (n:Nat):Ph (n+2) "sendings"=cH 6 18 (dX (Ph (n+1)) (Ph n)):=by kernel_rfl
noncomputable def fE (x h:Str->GF):ES:=(bL (bu (aa 13) (eV (aF (v2 (aF (v5 (vt "step") (vv 2) (ab am (vv 3) (vi 0)) (vv 4) (vv 14))) (aF (v2 (vv 12) (vv 15))))))))
noncomputable def bX (h x:Str->GF):ES:=(ae (ao 5 (dG (mT Tb h) (aa 0) "family_of" (ac (aa 2) bf)))
  (ae (qo (aV [ag 6,ag 7,ag 8]) (ab am (ab am (vv 1) (vi 0)) (vv 2)))
  (ae (ao 9 (eV (ab am (vv 1) (vi 1))))
  (ae (ao 10 (fC (h "values_of") (ac (aa 5) (ac (aa 7) bf))))
  (ae (eO (bV (aH dm (aa 4) (eV (vC (.non))))) (ae (ao 11 (uU (dP (aT Att) (aa 0) "places") (v2 (ab am (vv 4) (vi 0)) (vv 2))))
  (ae (fm (aa 10) (vt "it") (ab am (ab am (ab am (vv 9) (vv 11)) (ab am (vv 4) (vi 1))) (vi 1)))
  (ao 9 (eV (af (pureOf (h "replaced")) (v3 (vv 9) (vv 11) (af (pureOf (h "without")) (v2 (ab am (vv 9) (vv 11)) (ab am (vv 4) (vi 1)))))))))) eW)
  (ae (ao 7 (eV (af (pureOf (h "cells_behind")) (v4 (vv 5) (vv 7) (vv 3) (vv 10)))))
  (ae (eO (bV (aH rW (aa 7) (eV (vC (.non))))) (aO (eV (aW aS))) eW)
  (ae (ao 8 (eV (af (pureOf (h "whos_behind")) (v4 (vv 5) (vv 8) (ab am (vv 3) (vi 3)) (vv 4)))))
  (ae (ao 12 (eV (af (pureOf (h "replaced")) (v3 (ab am (vv 1) (vi 0)) (vv 2) (aF (v3 (n2 (ab am (vv 5) (vi 2)) (ab am (vv 3) (vi 6))) (vv 7) (vv 8)))))))
  (ae (ao 13 (cy aS))
  (ae (cb (g6 (cB (h "sendings") (ac (aa 0) (ac (aa 2) (ac (eV (ab am (vv 3) (vi 5))) (ac (aa 10) (ac (aa 9) (ac (aa 8) bf)))))))) (aV [ag 14,ag 15]) (fE h x))
  (aO (aa 13)))))))))))))
theorem ee (n:Nat):Ph (n+2) "step_ends"=cH 5 16 (bX (Ph (n+1)) (Ph n)):=by kernel_rfl
noncomputable def fI (h x:Str->GF):ES:=(bL (dH (aa 8) (cB (h "step_ends") (ac (aa 0) (ac (aa 1) (ac (aa 2) (ac (aa 9) (ac (aa 10) bf))))))))
noncomputable def df (h x:Str->GF):ES:=(eO (gX (bV (aH d9 (eV (ab am (vv 9) (vi 1))) (eV (ab am (ab am (vv 3) (vi 2)) (vv 4))))) (bT (eV (af (pureOf (h "holds")) (v2 (ab am (vv 9) (vi 2)) (vv 7)))))) (cb (g6 (cB (h "takeable") (ac (aa 0) (ac (eV (ab am (vv 1) (vi 1))) (ac (aa 2) (ac (eV (ab am (vv 9) (vi 3))) bf)))))) (ag 10) (fI h x)) eW)
noncomputable def cN (h x:Str->GF):ES:=(ae (ao 3 (dG (mT Tb h) (aa 0) "family_of" (ac (aa 2) bf)))
  (ae (qo (aV [ag 4,ag 5,ag 6]) (ab am (ab am (vv 1) (vi 0)) (vv 2)))
  (ae (ao 7 (eV (af (pureOf (h "values_of")) (v2 (vv 3) (vv 5)))))
  (ae (ao 8 (cy aS))
  (ae (cb (g6 (ab am (vv 3) (vi 5))) (ag 9) (df h x))
  (aO (aa 8)))))))
theorem fO (n:Nat):Ph (n+2) "hand_ends"=cH 3 11 (cN (Ph (n+1)) (Ph n)):=by kernel_rfl
noncomputable def jt (h x:Str->GF):ES:=(bL (dH (aa 2) (cB (h "hand_ends") (ac (aa 0) (ac (aa 1) (ac (aa 3) bf))))))
noncomputable def ju (h x:Str->GF):ES:=(ae (ao 2 (cy aS))
  (ae (cb (gW (dU (dP (aT Att) (aa 0) "homes"))) (ag 3) (jt h x))
  (ae (bL (dH (aa 2) (cB (h "flaw_ends") (ac (aa 0) (ac (aa 1) (ac (eV (vt "lose")) bf))))))
  (ae (bL (dH (aa 2) (cB (h "flaw_ends") (ac (aa 0) (ac (aa 1) (ac (eV (vt "double")) bf))))))
  (aO (aa 2))))))
theorem sY (n:Nat):Ph (n+2) "ends_on"=cH 2 4 (ju (Ph (n+1)) (Ph n)):=by kernel_rfl
noncomputable def b8 (h x:Str->GF):ES:=(bL (bu (mO (dP (aT Att) (aa 0) "members") (ab am (vE (dG (mT Tb h) (aa 0) "family_of" (ac (aa 4) bf))) (vi 0)) (cy aS)) (aa 4)))
noncomputable def fj (x h:Str->GF):ES:=(vA (dP (aT Att) (aa 0) "places") (v2 (ab am (vv 3) (vi 1)) (ab am (vv 3) (vi 2))) (vv 2))
noncomputable def gU (h x:Str->GF):ES:=(ae (ku (aT Att) (aa 0) "families" (eV (ab am (vv 1) (vi 0))))
  (ae (ku (aT Att) (aa 0) "homes" (fC (h "families_of") (ac (aa 1) bf)))
  (ae (ku (aT Att) (aa 0) "pairs" (fC (h "pairs_of") (ac (aa 1) bf)))
  (ae (ku (aT Att) (aa 0) "places" qS)
  (ae (cb (ol (vE (dP (aT Att) (aa 0) "pairs"))) (aV [ag 2,ag 3]) (fj h x))
  (ae (ku (aT Att) (aa 0) "members" lU)
  (cb (gW (dU (dP (aT Att) (aa 0) "homes"))) (ag 4) (b8 h x))))))))
theorem nM (n:Nat):Ph (n+2) "Board.__init__"=cH 2 5 (gU (Ph (n+1)) (Ph n)):=by kernel_rfl
noncomputable def jT (x h:Str->GF):ES:=(aO (eV (cB (x "ends_on") (ac (pa (h "Board.__init__") "Board" (ac (aa 0) bf)) (ac (aa 1) bf)))))
theorem oz (n:Nat):Ph (n+2) "ends_from"=cH 2 2 (jT (Ph (n+1)) (Ph n)):=by kernel_rfl
noncomputable def pD (h x:Str->GF):ES:=(aO (eV (aY (g6 (af (pureOf (h "ends_from")) (v2 (vv 0) (vv 1)))) [] 1 (ag 2) eT (ab am (vv 2) (vi 0)))))
theorem xm (n:Nat):Ph (n+2) "deeds"=cH 2 2 (pD (Ph (n+1)) (Ph n)):=by kernel_rfl
noncomputable def fS (x h:Str->GF):ES:=(ae (qo (aV [ag 3,ag 4]) (vv 1))
  (aO (eV (aH d9 (eV (j5 (vv 2) gI (gm (vi 3)))) (eV (aF (v3 (vt "step") (vv 4) (ab am (ab am (ab am (vv 0) (vi 2)) (vv 3)) (vi 2)))))))))
theorem g9 (n:Nat):Ph (n+2) "done_by"=cH 3 5 (fS (Ph (n+1)) (Ph n)):=by kernel_rfl
noncomputable def dR (h x:Str->GF):ES:=(aO (eV (af pk (v1 (aY (g6 (cB (h "hand_ends") (ac (aa 0) (ac (aa 2) (ac (eV (ab am (vv 3) (vi 1))) bf))))) [] 1 (ag 4) eT (af (pureOf (h "done_by")) (v3 (vv 1) (vv 3) (ab am (vv 4) (vi 0)))))))))
theorem g_ (n:Nat):Ph (n+2) "able_on"=cH 4 4 (dR (Ph (n+1)) (Ph n)):=by kernel_rfl
noncomputable def tW (x h:Str->GF):ES:=(aO (eV (cB (x "able_on") (ac (pa (h "Board.__init__") "Board" (ac (aa 0) bf)) (ac (aa 0) (ac (aa 1) (ac (aa 2) bf)))))))
theorem zA (n:Nat):Ph (n+2) "able"=cH 3 3 (tW (Ph (n+1)) (Ph n)):=by kernel_rfl
noncomputable def iN (h x:Str->GF):ES:=(ao 2 (eV (ab aG (vv 2) (aY (g6 (af (pureOf (h "_law_crew")) (v2 (vv 1) (ab am (vv 4) (vi 1))))) [] 1 (ag 11) eT (aF (v2 (vv 3) (vv 11)))))))
noncomputable def iM (h x:Str->GF):ES:=(ae (ao 5 (eV (af (pureOf (h "done_by")) (v3 (vv 1) (vv 4) (vv 10)))))
  (eO (wq (mw (bT (eV (ui "bool" (aa 5))))) (bV (aH mN (aa 5) (eV (aH z7 (aa 10) (aa 9)))))) (aO (eV (vC (.bl false)))) eW))
noncomputable def kf (h x:Str->GF):ES:=(ae (ao 8 (eV (ab am (ab am (ab am (vv 1) (vi 2)) (ab am (vv 4) (vi 0))) (vi 2))))
  (ae (ao 9 (eV (aY (g6 (vv 7)) [10] 0 (ag 10) (bV (aH d9 (eV (j5 (vv 10) gI (gm (vi 3)))) (eV (aF (v3 (vt "step") (ab am (vv 4) (vi 1)) (vv 8)))))) (vv 10))))
  (ae (ao 5 (eV (af (pureOf (h "able")) (v3 (vv 1) (vv 6) (vv 4)))))
  (ae (eO (wq (mw (bT (eV (ui "bool" (aa 5))))) (bV (aH mN (aa 5) (eV (aH mN (aa 9) (eV (aW aS))))))) (aO (eV (vC (.bl false)))) eW)
  (cb (g6 (ab aG (vv 7) (aW (v2 (aF (v4 (vt "lose") (ab am (vv 4) (vi 1)) (vi 0) (vi 0))) (aF (v4 (vt "double") (ab am (vv 4) (vi 1)) (vi 0) (vi 0))))))) (ag 10) (iM h x))))))
noncomputable def iL (h x:Str->GF):ES:=(ae (ao 7 (eV (af (pureOf (h "deeds")) (v2 (vv 1) (vv 6)))))
  (cb (g6 (vv 2)) (ag 4) (kf h x)))
noncomputable def rO (h x:Str->GF):ES:=(ae (ao 1 (eV (af (pureOf (h "_law_plan")) (v2 (vv 0) (vi 3)))))
  (ae (ao 2 (eV (aW aS)))
  (ae (cb (ol (ab am (vv 1) (vi 2))) (aV [ag 3,ag 4]) (iN h x))
  (ae (ao 5 (fC (h "wishes_of") (ac (aa 1) bf)))
  (ae (eO (wq (mw (bT (eV (ui "list" (aa 5))))) (bV (aH mN (aa 5) (aa 2)))) (aO (eV (vC (.bl false)))) eW)
  (ae (bL (bu (aa 5) (eV (aF (v2 (vi 0) (vi 0))))))
  (ae (eO (bV (aH mN (eV (af (pureOf (h "wishes_of")) (v1 (vv 1)))) (aa 2))) (aO (eV (vC (.bl false)))) eW)
  (ae (cb (g6 (aW (v2 (af (pureOf (h "_law_standing")) (v2 (vv 0) (vv 1))) (af (pureOf (h "begin")) (v1 (vv 1)))))) (ag 6) (iL h x))
  (aO (eV (vC (.bl true))))))))))))
theorem Bn (n:Nat):Ph (n+2) "law"=cH 1 11 (rO (Ph (n+1)) (Ph n)):=by kernel_rfl
variable {a:Type}{m:List a}
theorem Em (h:m.length=n+1):∃a r,m=a::r/\r.length=n:=by
 cases m with
 | nil=>cases h
 | cons a r=>exact⟨a,r,rfl,Nat.succ.inj h⟩
theorem BX (h:m.length=1):∃a,m=[a]:=by obtain⟨a,r,rfl,x⟩:=Em h;exact⟨a,by rw [iu x]⟩
theorem qF (h:m.length=2):∃a b,m=[a,b]:=by obtain⟨a,r,rfl,x⟩:=Em h;obtain⟨b,rfl⟩:=BX x;exact⟨a,b,rfl⟩
theorem xH (h:m.length=3):∃a b c,m=[a,b,c]:=by obtain⟨a,r,rfl,x⟩:=Em h;obtain⟨b,c,rfl⟩:=qF x;exact⟨a,b,c,rfl⟩
theorem Ga (h:m.length=4):∃a b c d,m=[a,b,c,d]:=by obtain⟨a,r,rfl,x⟩:=Em h;obtain⟨b,c,d,rfl⟩:=xH x;exact⟨a,b,c,d,rfl⟩
theorem HF (h:m.length=5):∃a b c d e,m=[a,b,c,d,e]:=by obtain⟨a,r,rfl,x⟩:=Em h;obtain⟨b,c,d,e,rfl⟩:=Ga x;exact⟨a,b,c,d,e,rfl⟩
theorem HE (h:m.length=6):∃a b c d e g,m=[a,b,c,d,e,g]:=by obtain⟨a,r,rfl,x⟩:=Em h;obtain⟨b,c,d,e,g,rfl⟩:=HF x;exact⟨a,b,c,d,e,g,rfl⟩
theorem sc:Tb.all Hr=true:=by decide +kernel
theorem un:(Tb.map (·.name)).Nodup:=by decide +kernel
open PySem.W in
theorem Eb (X:K.In h) (G:h.Ns mainGlobals mg)
  (s:nsIn K mainGlobals "Board"=some (some (.ref C))) (b:plainGet K C Str.empty=true) (n:hasDictIn K C=true) (a:plainOver K C=true) (k:findIn K (.ref C) "__setattr__"=some (some (.builtin "object.__setattr__"))) (cf0:makesIn K C=true) (cg0:keepIn K (.ref C)=true)
  (j:findIn K (.ref C) "families"=some none)
  (y:findIn K (.ref C) "homes"=some none)
  (o:findIn K (.ref C) "members"=some none)
  (H:findIn K (.ref C) "pairs"=some none)
  (S:findIn K (.ref C) "places"=some none)
  (a0:nsIn K mainGlobals "_law_cell_at"=some (some (.ref f0)))
  (l0:K.lookup f0=some ⟨oc0,od0,.func (fnOf "_law_cell_at" "_law_cell_at" (aC (ar 35)) (av (ar 35)) (ah (ar 35)) .none kV0 dc0 pm0 an0 cd0 ct0),sl0⟩) (c0:codeIn K cd0 "_law_cell_at"=true) (k0:keepIn K (.ref f0)=true)
  (a1:nsIn K mainGlobals "_law_mix"=some (some (.ref f1)))
  (l1:K.lookup f1=some ⟨oc1,od1,.func (fnOf "_law_mix" "_law_mix" (aC (ar 36)) (av (ar 36)) (ah (ar 36)) .none kV1 dc1 pm1 an1 cd1 ct1),sl1⟩) (c1:codeIn K cd1 "_law_mix"=true) (k1:keepIn K (.ref f1)=true)
  (a2:nsIn K mainGlobals "_law_roads"=some (some (.ref f2)))
  (l2:K.lookup f2=some ⟨oc2,od2,.func (fnOf "_law_roads" "_law_roads" (aC (ar 41)) (av (ar 41)) (ah (ar 41)) .none kV2 dc2 pm2 an2 cd2 ct2),sl2⟩) (c2:codeIn K cd2 "_law_roads"=true) (k2:keepIn K (.ref f2)=true)
  (a3:nsIn K mainGlobals "_law_name"=some (some (.ref f3)))
  (l3:K.lookup f3=some ⟨oc3,od3,.func (fnOf "_law_name" "_law_name" (aC (ar 37)) (av (ar 37)) (ah (ar 37)) .none kV3 dc3 pm3 an3 cd3 ct3),sl3⟩) (c3:codeIn K cd3 "_law_name"=true) (k3:keepIn K (.ref f3)=true)
  (a4:nsIn K mainGlobals "_law_cells"=some (some (.ref f4)))
  (l4:K.lookup f4=some ⟨oc4,od4,.func (fnOf "_law_cells" "_law_cells" (aC (ar 38)) (av (ar 38)) (ah (ar 38)) .none kV4 dc4 pm4 an4 cd4 ct4),sl4⟩) (c4:codeIn K cd4 "_law_cells"=true) (k4:keepIn K (.ref f4)=true)
  (a5:nsIn K mainGlobals "_law_sum"=some (some (.ref f5)))
  (l5:K.lookup f5=some ⟨oc5,od5,.func (fnOf "_law_sum" "_law_sum" (aC (ar 39)) (av (ar 39)) (ah (ar 39)) .none kV5 dc5 pm5 an5 cd5 ct5),sl5⟩) (c5:codeIn K cd5 "_law_sum"=true) (k5:keepIn K (.ref f5)=true)
  (a6:nsIn K mainGlobals "_law_sends"=some (some (.ref f6)))
  (l6:K.lookup f6=some ⟨oc6,od6,.func (fnOf "_law_sends" "_law_sends" (aC (ar 42)) (av (ar 42)) (ah (ar 42)) .none kV6 dc6 pm6 an6 cd6 ct6),sl6⟩) (c6:codeIn K cd6 "_law_sends"=true) (k6:keepIn K (.ref f6)=true)
  (a7:nsIn K mainGlobals "_law_condition"=some (some (.ref f7)))
  (l7:K.lookup f7=some ⟨oc7,od7,.func (fnOf "_law_condition" "_law_condition" (aC (ar 40)) (av (ar 40)) (ah (ar 40)) .none kV7 dc7 pm7 an7 cd7 ct7),sl7⟩) (c7:codeIn K cd7 "_law_condition"=true) (k7:keepIn K (.ref f7)=true)
  (a8:nsIn K mainGlobals "_law_step"=some (some (.ref f8)))
  (l8:K.lookup f8=some ⟨oc8,od8,.func (fnOf "_law_step" "_law_step" (aC (ar 43)) (av (ar 43)) (ah (ar 43)) .none kV8 dc8 pm8 an8 cd8 ct8),sl8⟩) (c8:codeIn K cd8 "_law_step"=true) (k8:keepIn K (.ref f8)=true)
  (a9:nsIn K mainGlobals "_law_family"=some (some (.ref f9)))
  (l9:K.lookup f9=some ⟨oc9,od9,.func (fnOf "_law_family" "_law_family" (aC (ar 44)) (av (ar 44)) (ah (ar 44)) .none kV9 dc9 pm9 an9 cd9 ct9),sl9⟩) (c9:codeIn K cd9 "_law_family"=true) (k9:keepIn K (.ref f9)=true)
  (a10:nsIn K mainGlobals "_law_plan"=some (some (.ref f10)))
  (l10:K.lookup f10=some ⟨oc10,od10,.func (fnOf "_law_plan" "_law_plan" (aC (ar 45)) (av (ar 45)) (ah (ar 45)) .none kV10 dc10 pm10 an10 cd10 ct10),sl10⟩) (F:codeIn K cd10 "_law_plan"=true) (k10:keepIn K (.ref f10)=true)
  (a11:nsIn K mainGlobals "families_of"=some (some (.ref f11)))
  (l11:K.lookup f11=some ⟨oc11,od11,.func (fnOf "families_of" "families_of" (aC (ar 8)) (av (ar 8)) (ah (ar 8)) .none kV11 dc11 pm11 an11 cd11 ct11),sl11⟩) (P:codeIn K cd11 "families_of"=true) (k11:keepIn K (.ref f11)=true)
  (a12:nsIn K mainGlobals "wishes_of"=some (some (.ref f12)))
  (l12:K.lookup f12=some ⟨oc12,od12,.func (fnOf "wishes_of" "wishes_of" (aC (ar 30)) (av (ar 30)) (ah (ar 30)) .none kV12 dc12 pm12 an12 cd12 ct12),sl12⟩) (A:codeIn K cd12 "wishes_of"=true) (k12:keepIn K (.ref f12)=true)
  (a13:nsIn K mainGlobals "_law_families"=some (some (.ref f13)))
  (l13:K.lookup f13=some ⟨oc13,od13,.func (fnOf "_law_families" "_law_families" (aC (ar 46)) (av (ar 46)) (ah (ar 46)) .none kV13 dc13 pm13 an13 cd13 ct13),sl13⟩) (B:codeIn K cd13 "_law_families"=true) (k13:keepIn K (.ref f13)=true)
  (a14:nsIn K mainGlobals "_law_crew"=some (some (.ref f14)))
  (l14:K.lookup f14=some ⟨oc14,od14,.func (fnOf "_law_crew" "_law_crew" (aC (ar 47)) (av (ar 47)) (ah (ar 47)) .none kV14 dc14 pm14 an14 cd14 ct14),sl14⟩) (D:codeIn K cd14 "_law_crew"=true) (k14:keepIn K (.ref f14)=true)
  (a15:nsIn K mainGlobals "_law_pairs"=some (some (.ref f15)))
  (l15:K.lookup f15=some ⟨oc15,od15,.func (fnOf "_law_pairs" "_law_pairs" (aC (ar 48)) (av (ar 48)) (ah (ar 48)) .none kV15 dc15 pm15 an15 cd15 ct15),sl15⟩) (E:codeIn K cd15 "_law_pairs"=true) (k15:keepIn K (.ref f15)=true)
  (a16:nsIn K mainGlobals "_law_standing"=some (some (.ref f16)))
  (l16:K.lookup f16=some ⟨oc16,od16,.func (fnOf "_law_standing" "_law_standing" (aC (ar 49)) (av (ar 49)) (ah (ar 49)) .none kV16 dc16 pm16 an16 cd16 ct16),sl16⟩) (I:codeIn K cd16 "_law_standing"=true) (k16:keepIn K (.ref f16)=true)
  (a17:nsIn K mainGlobals "pairs_of"=some (some (.ref f17)))
  (l17:K.lookup f17=some ⟨oc17,od17,.func (fnOf "pairs_of" "pairs_of" (aC (ar 9)) (av (ar 9)) (ah (ar 9)) .none kV17 dc17 pm17 an17 cd17 ct17),sl17⟩) (J:codeIn K cd17 "pairs_of"=true) (k17:keepIn K (.ref f17)=true)
  (a18:nsIn K mainGlobals "begin"=some (some (.ref f18)))
  (l18:K.lookup f18=some ⟨oc18,od18,.func (fnOf "begin" "begin" (aC (ar 10)) (av (ar 10)) (ah (ar 10)) .none kV18 dc18 pm18 an18 cd18 ct18),sl18⟩) (L:codeIn K cd18 "begin"=true) (k18:keepIn K (.ref f18)=true)
  (a19:nsIn K mainGlobals "has_flaw"=some (some (.ref f19)))
  (l19:K.lookup f19=some ⟨oc19,od19,.func (fnOf "has_flaw" "has_flaw" (aC (ar 25)) (av (ar 25)) (ah (ar 25)) .none kV19 dc19 pm19 an19 cd19 ct19),sl19⟩) (M:codeIn K cd19 "has_flaw"=true) (k19:keepIn K (.ref f19)=true)
  (a20:nsIn K mainGlobals "unlike_spots"=some (some (.ref f20)))
  (l20:K.lookup f20=some ⟨oc20,od20,.func (fnOf "unlike_spots" "unlike_spots" (aC (ar 17)) (av (ar 17)) (ah (ar 17)) .none kV20 dc20 pm20 an20 cd20 ct20),sl20⟩) (N:codeIn K cd20 "unlike_spots"=true) (k20:keepIn K (.ref f20)=true)
  (a21:nsIn K mainGlobals "replaced"=some (some (.ref f21)))
  (l21:K.lookup f21=some ⟨oc21,od21,.func (fnOf "replaced" "replaced" (aC (ar 28)) (av (ar 28)) (ah (ar 28)) .none kV21 dc21 pm21 an21 cd21 ct21),sl21⟩) (O:codeIn K cd21 "replaced"=true) (k21:keepIn K (.ref f21)=true)
  (a22:nsIn K mainGlobals "without"=some (some (.ref f22)))
  (l22:K.lookup f22=some ⟨oc22,od22,.func (fnOf "without" "without" (aC (ar 27)) (av (ar 27)) (ah (ar 27)) .none kV22 dc22 pm22 an22 cd22 ct22),sl22⟩) (Q:codeIn K cd22 "without"=true) (k22:keepIn K (.ref f22)=true)
  (a23:nsIn K mainGlobals "flawed"=some (some (.ref f23)))
  (l23:K.lookup f23=some ⟨oc23,od23,.func (fnOf "flawed" "flawed" (aC (ar 26)) (av (ar 26)) (ah (ar 26)) .none kV23 dc23 pm23 an23 cd23 ct23),sl23⟩) (R:codeIn K cd23 "flawed"=true) (k23:keepIn K (.ref f23)=true)
  (a24:nsIn K mainGlobals "flaw_ends"=some (some (.ref f24)))
  (l24:K.lookup f24=some ⟨oc24,od24,.func (fnOf "flaw_ends" "flaw_ends" (aC (ar 24)) (av (ar 24)) (ah (ar 24)) .none kV24 dc24 pm24 an24 cd24 ct24),sl24⟩) (T:codeIn K cd24 "flaw_ends"=true) (k24:keepIn K (.ref f24)=true)
  (a25:findIn K (.ref C) "family_of"=some (some (.ref t))) (w25:isFn K (.ref t)=true)
  (l25:K.lookup t=some ⟨oc25,od25,.func (fnOf "family_of" "Board.family_of" (aC (L2.cz (ar 7) 1)) (av (L2.cz (ar 7) 1)) (ah (L2.cz (ar 7) 1)) .none kV25 dc25 pm25 an25 cd25 ct25),sl25⟩) (U:codeIn K cd25 "Board.family_of"=true) (g:keepIn K (.ref t)=true)
  (a26:nsIn K mainGlobals "values_of"=some (some (.ref f26)))
  (l26:K.lookup f26=some ⟨oc26,od26,.func (fnOf "values_of" "values_of" (aC (ar 15)) (av (ar 15)) (ah (ar 15)) .none kV26 dc26 pm26 an26 cd26 ct26),sl26⟩) (V:codeIn K cd26 "values_of"=true) (k26:keepIn K (.ref f26)=true)
  (a27:nsIn K mainGlobals "compared"=some (some (.ref f27)))
  (l27:K.lookup f27=some ⟨oc27,od27,.func (fnOf "compared" "compared" (aC (ar 3)) (av (ar 3)) (ah (ar 3)) .none kV27 dc27 pm27 an27 cd27 ct27),sl27⟩) (W:codeIn K cd27 "compared"=true) (k27:keepIn K (.ref f27)=true)
  (a28:nsIn K mainGlobals "value_of"=some (some (.ref f28)))
  (l28:K.lookup f28=some ⟨oc28,od28,.func (fnOf "value_of" "value_of" (aC (ar 1)) (av (ar 1)) (ah (ar 1)) .none kV28 dc28 pm28 an28 cd28 ct28),sl28⟩) (Y:codeIn K cd28 "value_of"=true) (k28:keepIn K (.ref f28)=true)
  (a29:nsIn K mainGlobals "holds"=some (some (.ref f29)))
  (l29:K.lookup f29=some ⟨oc29,od29,.func (fnOf "holds" "holds" (aC (ar 2)) (av (ar 2)) (ah (ar 2)) .none kV29 dc29 pm29 an29 cd29 ct29),sl29⟩) (Z:codeIn K cd29 "holds"=true) (k29:keepIn K (.ref f29)=true)
  (a30:findIn K (.ref C) "hands_beside"=some (some (.ref p))) (w30:isFn K (.ref p)=true)
  (l30:K.lookup p=some ⟨oc30,od30,.func (fnOf "hands_beside" "Board.hands_beside" (aC (L2.cz (ar 7) 2)) (av (L2.cz (ar 7) 2)) (ah (L2.cz (ar 7) 2)) .none kV30 dc30 pm30 an30 cd30 ct30),sl30⟩) (c30:codeIn K cd30 "Board.hands_beside"=true) (i:keepIn K (.ref p)=true)
  (a31:nsIn K mainGlobals "takeable"=some (some (.ref f31)))
  (l31:K.lookup f31=some ⟨oc31,od31,.func (fnOf "takeable" "takeable" (aC (ar 16)) (av (ar 16)) (ah (ar 16)) .none kV31 dc31 pm31 an31 cd31 ct31),sl31⟩) (c31:codeIn K cd31 "takeable"=true) (k31:keepIn K (.ref f31)=true)
  (a32:nsIn K mainGlobals "cells_behind"=some (some (.ref f32)))
  (l32:K.lookup f32=some ⟨oc32,od32,.func (fnOf "cells_behind" "cells_behind" (aC (ar 19)) (av (ar 19)) (ah (ar 19)) .none kV32 dc32 pm32 an32 cd32 ct32),sl32⟩) (c32:codeIn K cd32 "cells_behind"=true) (k32:keepIn K (.ref f32)=true)
  (a33:nsIn K mainGlobals "whos_behind"=some (some (.ref f33)))
  (l33:K.lookup f33=some ⟨oc33,od33,.func (fnOf "whos_behind" "whos_behind" (aC (ar 20)) (av (ar 20)) (ah (ar 20)) .none kV33 dc33 pm33 an33 cd33 ct33),sl33⟩) (c33:codeIn K cd33 "whos_behind"=true) (k33:keepIn K (.ref f33)=true)
  (a34:nsIn K mainGlobals "targets_of"=some (some (.ref f34)))
  (l34:K.lookup f34=some ⟨oc34,od34,.func (fnOf "targets_of" "targets_of" (aC (ar 22)) (av (ar 22)) (ah (ar 22)) .none kV34 dc34 pm34 an34 cd34 ct34),sl34⟩) (c34:codeIn K cd34 "targets_of"=true) (k34:keepIn K (.ref f34)=true)
  (a35:nsIn K mainGlobals "posted"=some (some (.ref f35)))
  (l35:K.lookup f35=some ⟨oc35,od35,.func (fnOf "posted" "posted" (aC (ar 23)) (av (ar 23)) (ah (ar 23)) .none kV35 dc35 pm35 an35 cd35 ct35),sl35⟩) (c35:codeIn K cd35 "posted"=true) (k35:keepIn K (.ref f35)=true)
  (a36:nsIn K mainGlobals "sendings"=some (some (.ref f36)))
  (l36:K.lookup f36=some ⟨oc36,od36,.func (fnOf "sendings" "sendings" (aC (ar 21)) (av (ar 21)) (ah (ar 21)) .none kV36 dc36 pm36 an36 cd36 ct36),sl36⟩) (c36:codeIn K cd36 "sendings"=true) (k36:keepIn K (.ref f36)=true)
  (a37:nsIn K mainGlobals "step_ends"=some (some (.ref f37)))
  (l37:K.lookup f37=some ⟨oc37,od37,.func (fnOf "step_ends" "step_ends" (aC (ar 18)) (av (ar 18)) (ah (ar 18)) .none kV37 dc37 pm37 an37 cd37 ct37),sl37⟩) (c37:codeIn K cd37 "step_ends"=true) (k37:keepIn K (.ref f37)=true)
  (a38:nsIn K mainGlobals "hand_ends"=some (some (.ref f38)))
  (l38:K.lookup f38=some ⟨oc38,od38,.func (fnOf "hand_ends" "hand_ends" (aC (ar 14)) (av (ar 14)) (ah (ar 14)) .none kV38 dc38 pm38 an38 cd38 ct38),sl38⟩) (c38:codeIn K cd38 "hand_ends"=true) (k38:keepIn K (.ref f38)=true)
  (a39:nsIn K mainGlobals "ends_on"=some (some (.ref f39)))
  (l39:K.lookup f39=some ⟨oc39,od39,.func (fnOf "ends_on" "ends_on" (aC (ar 13)) (av (ar 13)) (ah (ar 13)) .none kV39 dc39 pm39 an39 cd39 ct39),sl39⟩) (c39:codeIn K cd39 "ends_on"=true) (k39:keepIn K (.ref f39)=true)
  (a40:findIn K (.ref C) "__init__"=some (some (.ref q))) (w40:isFn K (.ref q)=true)
  (l40:K.lookup q=some ⟨oc40,od40,.func (fnOf "__init__" "Board.__init__" (aC (L2.cz (ar 7) 0)) (av (L2.cz (ar 7) 0)) (ah (L2.cz (ar 7) 0)) .none kV40 dc40 pm40 an40 cd40 ct40),sl40⟩) (c40:codeIn K cd40 "Board.__init__"=true) (k40:keepIn K (.ref q)=true)
  (a41:nsIn K mainGlobals "ends_from"=some (some (.ref f41)))
  (l41:K.lookup f41=some ⟨oc41,od41,.func (fnOf "ends_from" "ends_from" (aC (ar 12)) (av (ar 12)) (ah (ar 12)) .none kV41 dc41 pm41 an41 cd41 ct41),sl41⟩) (c41:codeIn K cd41 "ends_from"=true) (k41:keepIn K (.ref f41)=true)
  (a42:nsIn K mainGlobals "deeds"=some (some (.ref f42)))
  (l42:K.lookup f42=some ⟨oc42,od42,.func (fnOf "deeds" "deeds" (aC (ar 11)) (av (ar 11)) (ah (ar 11)) .none kV42 dc42 pm42 an42 cd42 ct42),sl42⟩) (c42:codeIn K cd42 "deeds"=true) (k42:keepIn K (.ref f42)=true)
  (a43:nsIn K mainGlobals "done_by"=some (some (.ref f43)))
  (l43:K.lookup f43=some ⟨oc43,od43,.func (fnOf "done_by" "done_by" (aC (ar 31)) (av (ar 31)) (ah (ar 31)) .none kV43 dc43 pm43 an43 cd43 ct43),sl43⟩) (c43:codeIn K cd43 "done_by"=true) (k43:keepIn K (.ref f43)=true)
  (a44:nsIn K mainGlobals "able_on"=some (some (.ref f44)))
  (l44:K.lookup f44=some ⟨oc44,od44,.func (fnOf "able_on" "able_on" (aC (ar 33)) (av (ar 33)) (ah (ar 33)) .none kV44 dc44 pm44 an44 cd44 ct44),sl44⟩) (c44:codeIn K cd44 "able_on"=true) (k44:keepIn K (.ref f44)=true)
  (a45:nsIn K mainGlobals "able"=some (some (.ref f45)))
  (l45:K.lookup f45=some ⟨oc45,od45,.func (fnOf "able" "able" (aC (ar 32)) (av (ar 32)) (ah (ar 32)) .none kV45 dc45 pm45 an45 cd45 ct45),sl45⟩) (c45:codeIn K cd45 "able"=true) (k45:keepIn K (.ref f45)=true)
  (a46:nsIn K mainGlobals "law"=some (some (.ref f46)))
  (l46:K.lookup f46=some ⟨oc46,od46,.func (fnOf "law" "law" (aC (ar 50)) (av (ar 50)) (ah (ar 50)) .none kV46 dc46 pm46 an46 cd46 ct46),sl46⟩) (c46:codeIn K cd46 "law"=true) (k46:keepIn K (.ref f46)=true) (glb0:nsIn K mainGlobals "HIGHEST_LETTER"=some (some (.int 999 gt0))) (glb1:nsIn K mainGlobals "NOBODY"=some (some (.int (-1) gt1)))
  (z:∀x ∈ By,nsIn K mainGlobals x=some none)
  : TOk w Gv Att Tb K mg:=by
 refine⟨fun d hd=>?_,sc,un,fun x u=>mg_none_of X G (z x u),fun x v r=>?_,fun c f hc=>?_⟩
 .rcases az.mp hd with hd | hd
  .subst hd;exact⟨_,_,⟨ak (st:=(ar 35)) l0 c0 k0,(ak (st:=(ar 35)) l0 c0 k0).binds (ps:=["_law_script","_law_k"]) fun _ _ _ _ _ _ m l=>by obtain⟨_,_,rfl⟩:=qF l;rfl,fun _=>aI X G a0,fun h=>absurd h (by decide +kernel)⟩⟩
  rcases az.mp hd with hd | hd
  .subst hd;exact⟨_,_,⟨ak (st:=(ar 36)) l1 c1 k1,(ak (st:=(ar 36)) l1 c1 k1).binds (ps:=["_law_cell","_law_k"]) fun _ _ _ _ _ _ m l=>by obtain⟨_,_,rfl⟩:=qF l;rfl,fun _=>aI X G a1,fun h=>absurd h (by decide +kernel)⟩⟩
  rcases az.mp hd with hd | hd
  .subst hd;exact⟨_,_,⟨ak (st:=(ar 41)) l2 c2 k2,(ak (st:=(ar 41)) l2 c2 k2).binds (ps:=["_law_script","_law_families_here","_law_room"]) fun _ _ _ _ _ _ m l=>by obtain⟨_,_,_,rfl⟩:=xH l;rfl,fun _=>aI X G a2,fun h=>absurd h (by decide +kernel)⟩⟩
  rcases az.mp hd with hd | hd
  .subst hd;exact⟨_,_,⟨ak (st:=(ar 37)) l3 c3 k3,(ak (st:=(ar 37)) l3 c3 k3).binds (ps:=["_law_script","_law_k"]) fun _ _ _ _ _ _ m l=>by obtain⟨_,_,rfl⟩:=qF l;rfl,fun _=>aI X G a3,fun h=>absurd h (by decide +kernel)⟩⟩
  rcases az.mp hd with hd | hd
  .subst hd;exact⟨_,_,⟨ak (st:=(ar 38)) l4 c4 k4,(ak (st:=(ar 38)) l4 c4 k4).binds (ps:=["_law_script","_law_family_here","_law_most"]) fun _ _ _ _ _ _ m l=>by obtain⟨_,_,_,rfl⟩:=xH l;rfl,fun _=>aI X G a4,fun h=>absurd h (by decide +kernel)⟩⟩
  rcases az.mp hd with hd | hd
  .subst hd;exact⟨_,_,⟨ak (st:=(ar 39)) l5 c5 k5,(ak (st:=(ar 39)) l5 c5 k5).binds (ps:=["_law_drawn","_law_names"]) fun _ _ _ _ _ _ m l=>by obtain⟨_,_,rfl⟩:=qF l;rfl,fun _=>aI X G a5,fun h=>absurd h (by decide +kernel)⟩⟩
  rcases az.mp hd with hd | hd
  .subst hd;exact⟨_,_,⟨ak (st:=(ar 42)) l6 c6 k6,(ak (st:=(ar 42)) l6 c6 k6).binds (ps:=["_law_drawn","_law_family_here","_law_names","_law_whos","_law_roads_here","_law_most"]) fun _ _ _ _ _ _ m l=>by obtain⟨_,_,_,_,_,_,rfl⟩:=HE l;rfl,fun _=>aI X G a6,fun h=>absurd h (by decide +kernel)⟩⟩
  rcases az.mp hd with hd | hd
  .subst hd;exact⟨_,_,⟨ak (st:=(ar 40)) l7 c7 k7,(ak (st:=(ar 40)) l7 c7 k7).binds (ps:=["_law_drawn","_law_names"]) fun _ _ _ _ _ _ m l=>by obtain⟨_,_,rfl⟩:=qF l;rfl,fun _=>aI X G a7,fun h=>absurd h (by decide +kernel)⟩⟩
  rcases az.mp hd with hd | hd
  .subst hd;exact⟨_,_,⟨ak (st:=(ar 43)) l8 c8 k8,(ak (st:=(ar 43)) l8 c8 k8).binds (ps:=["_law_drawn","_law_family_here","_law_rooms","_law_cells_here","_law_whos","_law_roads_here"]) fun _ _ _ _ _ _ m l=>by obtain⟨_,_,_,_,_,_,rfl⟩:=HE l;rfl,fun _=>aI X G a8,fun h=>absurd h (by decide +kernel)⟩⟩
  rcases az.mp hd with hd | hd
  .subst hd;exact⟨_,_,⟨ak (st:=(ar 44)) l9 c9 k9,(ak (st:=(ar 44)) l9 c9 k9).binds (ps:=["_law_script","_law_k","_law_name_here","_law_crew_here","_law_wide","_law_roads_here"]) fun _ _ _ _ _ _ m l=>by obtain⟨_,_,_,_,_,_,rfl⟩:=HE l;rfl,fun _=>aI X G a9,fun h=>absurd h (by decide +kernel)⟩⟩
  rcases az.mp hd with hd | hd
  .subst hd;exact⟨_,_,⟨ak (st:=(ar 45)) l10 F k10,(ak (st:=(ar 45)) l10 F k10).binds (ps:=["_law_script","_law_most"]) fun _ _ _ _ _ _ m l=>by obtain⟨_,_,rfl⟩:=qF l;rfl,fun _=>aI X G a10,fun h=>absurd h (by decide +kernel)⟩⟩
  rcases az.mp hd with hd | hd
  .subst hd;exact⟨_,_,⟨ak (st:=(ar 8)) l11 P k11,(ak (st:=(ar 8)) l11 P k11).binds (ps:=["plan"]) fun _ _ _ _ _ _ m l=>by obtain⟨_,rfl⟩:=BX l;rfl,fun _=>aI X G a11,fun h=>absurd h (by decide +kernel)⟩⟩
  rcases az.mp hd with hd | hd
  .subst hd;exact⟨_,_,⟨ak (st:=(ar 30)) l12 A k12,(ak (st:=(ar 30)) l12 A k12).binds (ps:=["plan"]) fun _ _ _ _ _ _ m l=>by obtain⟨_,rfl⟩:=BX l;rfl,fun _=>aI X G a12,fun h=>absurd h (by decide +kernel)⟩⟩
  rcases az.mp hd with hd | hd
  .subst hd;exact⟨_,_,⟨ak (st:=(ar 46)) l13 B k13,(ak (st:=(ar 46)) l13 B k13).binds (ps:=["_law_plan_here"]) fun _ _ _ _ _ _ m l=>by obtain⟨_,rfl⟩:=BX l;rfl,fun _=>aI X G a13,fun h=>absurd h (by decide +kernel)⟩⟩
  rcases az.mp hd with hd | hd
  .subst hd;exact⟨_,_,⟨ak (st:=(ar 47)) l14 D k14,(ak (st:=(ar 47)) l14 D k14).binds (ps:=["_law_plan_here","_law_name_here"]) fun _ _ _ _ _ _ m l=>by obtain⟨_,_,rfl⟩:=qF l;rfl,fun _=>aI X G a14,fun h=>absurd h (by decide +kernel)⟩⟩
  rcases az.mp hd with hd | hd
  .subst hd;exact⟨_,_,⟨ak (st:=(ar 48)) l15 E k15,(ak (st:=(ar 48)) l15 E k15).binds (ps:=["_law_plan_here"]) fun _ _ _ _ _ _ m l=>by obtain⟨_,rfl⟩:=BX l;rfl,fun _=>aI X G a15,fun h=>absurd h (by decide +kernel)⟩⟩
  rcases az.mp hd with hd | hd
  .subst hd;exact⟨_,_,⟨ak (st:=(ar 49)) l16 I k16,(ak (st:=(ar 49)) l16 I k16).binds (ps:=["_law_script","_law_plan_here"]) fun _ _ _ _ _ _ m l=>by obtain⟨_,_,rfl⟩:=qF l;rfl,fun _=>aI X G a16,fun h=>absurd h (by decide +kernel)⟩⟩
  rcases az.mp hd with hd | hd
  .subst hd;exact⟨_,_,⟨ak (st:=(ar 9)) l17 J k17,(ak (st:=(ar 9)) l17 J k17).binds (ps:=["plan"]) fun _ _ _ _ _ _ m l=>by obtain⟨_,rfl⟩:=BX l;rfl,fun _=>aI X G a17,fun h=>absurd h (by decide +kernel)⟩⟩
  rcases az.mp hd with hd | hd
  .subst hd;exact⟨_,_,⟨ak (st:=(ar 10)) l18 L k18,(ak (st:=(ar 10)) l18 L k18).binds (ps:=["plan"]) fun _ _ _ _ _ _ m l=>by obtain⟨_,rfl⟩:=BX l;rfl,fun _=>aI X G a18,fun h=>absurd h (by decide +kernel)⟩⟩
  rcases az.mp hd with hd | hd
  .subst hd;exact⟨_,_,⟨ak (st:=(ar 25)) l19 M k19,(ak (st:=(ar 25)) l19 M k19).binds (ps:=["road","word","letters"]) fun _ _ _ _ _ _ m l=>by obtain⟨_,_,_,rfl⟩:=xH l;rfl,fun _=>aI X G a19,fun h=>absurd h (by decide +kernel)⟩⟩
  rcases az.mp hd with hd | hd
  .subst hd;exact⟨_,_,⟨ak (st:=(ar 17)) l20 N k20,(ak (st:=(ar 17)) l20 N k20).binds (ps:=["kind","letters"]) fun _ _ _ _ _ _ m l=>by obtain⟨_,_,rfl⟩:=qF l;rfl,fun _=>aI X G a20,fun h=>absurd h (by decide +kernel)⟩⟩
  rcases az.mp hd with hd | hd
  .subst hd;exact⟨_,_,⟨ak (st:=(ar 28)) l21 O k21,(ak (st:=(ar 28)) l21 O k21).binds (ps:=["row","place","thing"]) fun _ _ _ _ _ _ m l=>by obtain⟨_,_,_,rfl⟩:=xH l;rfl,fun _=>aI X G a21,fun h=>absurd h (by decide +kernel)⟩⟩
  rcases az.mp hd with hd | hd
  .subst hd;exact⟨_,_,⟨ak (st:=(ar 27)) l22 Q k22,(ak (st:=(ar 27)) l22 Q k22).binds (ps:=["row","place"]) fun _ _ _ _ _ _ m l=>by obtain⟨_,_,rfl⟩:=qF l;rfl,fun _=>aI X G a22,fun h=>absurd h (by decide +kernel)⟩⟩
  rcases az.mp hd with hd | hd
  .subst hd;exact⟨_,_,⟨ak (st:=(ar 26)) l23 R k23,(ak (st:=(ar 26)) l23 R k23).binds (ps:=["word","letters","spot"]) fun _ _ _ _ _ _ m l=>by obtain⟨_,_,_,rfl⟩:=xH l;rfl,fun _=>aI X G a23,fun h=>absurd h (by decide +kernel)⟩⟩
  rcases az.mp hd with hd | hd
  .subst hd;exact⟨_,_,⟨ak (st:=(ar 24)) l24 T k24,(ak (st:=(ar 24)) l24 T k24).binds (ps:=["board","standing","word"]) fun _ _ _ _ _ _ m l=>by obtain⟨_,_,_,rfl⟩:=xH l;rfl,fun _=>aI X G a24,fun h=>absurd h (by decide +kernel)⟩⟩
  rcases az.mp hd with hd | hd
  .subst hd;exact⟨_,_,⟨ak (st:=(L2.cz (ar 7) 1)) l25 U g,(ak (st:=(L2.cz (ar 7) 1)) l25 U g).binds (ps:=["self","hand"]) fun _ _ _ _ _ _ m l=>by obtain⟨_,_,rfl⟩:=qF l;rfl,fun h=>absurd h (by decide +kernel),fun _=>⟨_,s,aI X G s,⟨b,n,a,k⟩,fun h=>absurd h (by decide +kernel),fun _=>⟨a25,w25,g⟩⟩⟩⟩
  rcases az.mp hd with hd | hd
  .subst hd;exact⟨_,_,⟨ak (st:=(ar 15)) l26 V k26,(ak (st:=(ar 15)) l26 V k26).binds (ps:=["family","cells"]) fun _ _ _ _ _ _ m l=>by obtain⟨_,_,rfl⟩:=qF l;rfl,fun _=>aI X G a26,fun h=>absurd h (by decide +kernel)⟩⟩
  rcases az.mp hd with hd | hd
  .subst hd;exact⟨_,_,⟨ak (st:=(ar 3)) l27 W k27,(ak (st:=(ar 3)) l27 W k27).binds (ps:=["word","one","other"]) fun _ _ _ _ _ _ m l=>by obtain⟨_,_,_,rfl⟩:=xH l;rfl,fun _=>aI X G a27,fun h=>absurd h (by decide +kernel)⟩⟩
  rcases az.mp hd with hd | hd
  .subst hd;exact⟨_,_,⟨ak (st:=(ar 1)) l28 Y k28,(ak (st:=(ar 1)) l28 Y k28).binds (ps:=["tree","values"]) fun _ _ _ _ _ _ m l=>by obtain⟨_,_,rfl⟩:=qF l;rfl,fun _=>aI X G a28,fun h=>absurd h (by decide +kernel)⟩⟩
  rcases az.mp hd with hd | hd
  .subst hd;exact⟨_,_,⟨ak (st:=(ar 2)) l29 Z k29,(ak (st:=(ar 2)) l29 Z k29).binds (ps:=["condition","values"]) fun _ _ _ _ _ _ m l=>by obtain⟨_,_,rfl⟩:=qF l;rfl,fun _=>aI X G a29,fun h=>absurd h (by decide +kernel)⟩⟩
  rcases az.mp hd with hd | hd
  .subst hd;exact⟨_,_,⟨ak (st:=(L2.cz (ar 7) 2)) l30 c30 i,(ak (st:=(L2.cz (ar 7) 2)) l30 c30 i).binds (ps:=["self","hand","name"]) fun _ _ _ _ _ _ m l=>by obtain⟨_,_,_,rfl⟩:=xH l;rfl,fun h=>absurd h (by decide +kernel),fun _=>⟨_,s,aI X G s,⟨b,n,a,k⟩,fun h=>absurd h (by decide +kernel),fun _=>⟨a30,w30,i⟩⟩⟩⟩
  rcases az.mp hd with hd | hd
  .subst hd;exact⟨_,_,⟨ak (st:=(ar 16)) l31 c31 k31,(ak (st:=(ar 16)) l31 c31 k31).binds (ps:=["board","roads","hand","take"]) fun _ _ _ _ _ _ m l=>by obtain⟨_,_,_,_,rfl⟩:=Ga l;rfl,fun _=>aI X G a31,fun h=>absurd h (by decide +kernel)⟩⟩
  rcases az.mp hd with hd | hd
  .subst hd;exact⟨_,_,⟨ak (st:=(ar 19)) l32 c32 k32,(ak (st:=(ar 19)) l32 c32 k32).binds (ps:=["family","cells","step","values"]) fun _ _ _ _ _ _ m l=>by obtain⟨_,_,_,_,rfl⟩:=Ga l;rfl,fun _=>aI X G a32,fun h=>absurd h (by decide +kernel)⟩⟩
  rcases az.mp hd with hd | hd
  .subst hd;exact⟨_,_,⟨ak (st:=(ar 20)) l33 c33 k33,(ak (st:=(ar 20)) l33 c33 k33).binds (ps:=["family","whos","take","letter"]) fun _ _ _ _ _ _ m l=>by obtain⟨_,_,_,_,rfl⟩:=Ga l;rfl,fun _=>aI X G a33,fun h=>absurd h (by decide +kernel)⟩⟩
  rcases az.mp hd with hd | hd
  .subst hd;exact⟨_,_,⟨ak (st:=(ar 22)) l34 c34 k34,(ak (st:=(ar 22)) l34 c34 k34).binds (ps:=["board","hand","way","name","whos"]) fun _ _ _ _ _ _ m l=>by obtain⟨_,_,_,_,_,rfl⟩:=HF l;rfl,fun _=>aI X G a34,fun h=>absurd h (by decide +kernel)⟩⟩
  rcases az.mp hd with hd | hd
  .subst hd;exact⟨_,_,⟨ak (st:=(ar 23)) l35 c35 k35,(ak (st:=(ar 23)) l35 c35 k35).binds (ps:=["board","roads","hand","targets","letter"]) fun _ _ _ _ _ _ m l=>by obtain⟨_,_,_,_,_,rfl⟩:=HF l;rfl,fun _=>aI X G a35,fun h=>absurd h (by decide +kernel)⟩⟩
  rcases az.mp hd with hd | hd
  .subst hd;exact⟨_,_,⟨ak (st:=(ar 21)) l36 c36 k36,(ak (st:=(ar 21)) l36 c36 k36).binds (ps:=["board","hand","sends","values","roads","whos"]) fun _ _ _ _ _ _ m l=>by obtain⟨_,_,_,_,_,_,rfl⟩:=HE l;rfl,fun _=>aI X G a36,fun h=>absurd h (by decide +kernel)⟩⟩
  rcases az.mp hd with hd | hd
  .subst hd;exact⟨_,_,⟨ak (st:=(ar 18)) l37 c37 k37,(ak (st:=(ar 18)) l37 c37 k37).binds (ps:=["board","standing","hand","step","letter"]) fun _ _ _ _ _ _ m l=>by obtain⟨_,_,_,_,_,rfl⟩:=HF l;rfl,fun _=>aI X G a37,fun h=>absurd h (by decide +kernel)⟩⟩
  rcases az.mp hd with hd | hd
  .subst hd;exact⟨_,_,⟨ak (st:=(ar 14)) l38 c38 k38,(ak (st:=(ar 14)) l38 c38 k38).binds (ps:=["board","standing","hand"]) fun _ _ _ _ _ _ m l=>by obtain⟨_,_,_,rfl⟩:=xH l;rfl,fun _=>aI X G a38,fun h=>absurd h (by decide +kernel)⟩⟩
  rcases az.mp hd with hd | hd
  .subst hd;exact⟨_,_,⟨ak (st:=(ar 13)) l39 c39 k39,(ak (st:=(ar 13)) l39 c39 k39).binds (ps:=["board","standing"]) fun _ _ _ _ _ _ m l=>by obtain⟨_,_,rfl⟩:=qF l;rfl,fun _=>aI X G a39,fun h=>absurd h (by decide +kernel)⟩⟩
  rcases az.mp hd with hd | hd
  .subst hd;exact⟨_,_,⟨ak (st:=(L2.cz (ar 7) 0)) l40 c40 k40,(ak (st:=(L2.cz (ar 7) 0)) l40 c40 k40).binds (ps:=["self","plan"]) fun _ _ _ _ _ _ m l=>by obtain⟨_,_,rfl⟩:=qF l;rfl,fun h=>absurd h (by decide +kernel),fun _=>⟨_,s,aI X G s,⟨b,n,a,k⟩,fun _=>⟨cf0,a40,w40,cg0⟩,fun h=>absurd rfl h⟩⟩⟩
  rcases az.mp hd with hd | hd
  .subst hd;exact⟨_,_,⟨ak (st:=(ar 12)) l41 c41 k41,(ak (st:=(ar 12)) l41 c41 k41).binds (ps:=["plan","standing"]) fun _ _ _ _ _ _ m l=>by obtain⟨_,_,rfl⟩:=qF l;rfl,fun _=>aI X G a41,fun h=>absurd h (by decide +kernel)⟩⟩
  rcases az.mp hd with hd | hd
  .subst hd;exact⟨_,_,⟨ak (st:=(ar 11)) l42 c42 k42,(ak (st:=(ar 11)) l42 c42 k42).binds (ps:=["plan","standing"]) fun _ _ _ _ _ _ m l=>by obtain⟨_,_,rfl⟩:=qF l;rfl,fun _=>aI X G a42,fun h=>absurd h (by decide +kernel)⟩⟩
  rcases az.mp hd with hd | hd
  .subst hd;exact⟨_,_,⟨ak (st:=(ar 31)) l43 c43 k43,(ak (st:=(ar 31)) l43 c43 k43).binds (ps:=["plan","wish","deed"]) fun _ _ _ _ _ _ m l=>by obtain⟨_,_,_,rfl⟩:=xH l;rfl,fun _=>aI X G a43,fun h=>absurd h (by decide +kernel)⟩⟩
  rcases az.mp hd with hd | hd
  .subst hd;exact⟨_,_,⟨ak (st:=(ar 33)) l44 c44 k44,(ak (st:=(ar 33)) l44 c44 k44).binds (ps:=["board","plan","standing","wish"]) fun _ _ _ _ _ _ m l=>by obtain⟨_,_,_,_,rfl⟩:=Ga l;rfl,fun _=>aI X G a44,fun h=>absurd h (by decide +kernel)⟩⟩
  rcases az.mp hd with hd | hd
  .subst hd;exact⟨_,_,⟨ak (st:=(ar 32)) l45 c45 k45,(ak (st:=(ar 32)) l45 c45 k45).binds (ps:=["plan","standing","wish"]) fun _ _ _ _ _ _ m l=>by obtain⟨_,_,_,rfl⟩:=xH l;rfl,fun _=>aI X G a45,fun h=>absurd h (by decide +kernel)⟩⟩
  rcases az.mp hd with hd | hd
  .subst hd;exact⟨_,_,⟨ak (st:=(ar 50)) l46 c46 k46,(ak (st:=(ar 50)) l46 c46 k46).binds (ps:=["_law_script"]) fun _ _ _ _ _ _ m l=>by obtain⟨_,rfl⟩:=BX l;rfl,fun _=>aI X G a46,fun h=>absurd h (by decide +kernel)⟩⟩
  cases hd
 .unfold Gv at r;by_cases e:x=("HIGHEST_LETTER":Str)
  .rw [if_pos e] at r;subst e;cases r;exact .plain ⟨_,.int 999,aI X G glb0,by first | exact rfl | exact⟨_,rfl⟩,fun _ _=>rfl⟩ rfl
  rw [if_neg e] at r;clear e;by_cases e:x=("NOBODY":Str)
  .rw [if_pos e] at r;subst e;cases r;exact .plain ⟨_,.int (-1),aI X G glb1,by first | exact rfl | exact⟨_,rfl⟩,fun _ _=>rfl⟩ rfl
  rw [if_neg e] at r;clear e;cases r
 .obtain⟨x,u,e⟩:=i9.mp hc;rw [Bool.and_eq_true] at e;have e1:=of_decide_eq_true e.1;have e2:f ∈ x.2:=by simpa using e.2
  subst e1;rcases az.mp u with u | u
  .subst u;simp only [az,dj,di] at e2;rcases e2 with rfl | rfl | rfl | rfl | rfl
   .exact⟨_,s,⟨b,n,a,k⟩,j⟩
   .exact⟨_,s,⟨b,n,a,k⟩,y⟩
   .exact⟨_,s,⟨b,n,a,k⟩,o⟩
   .exact⟨_,s,⟨b,n,a,k⟩,H⟩
   .exact⟨_,s,⟨b,n,a,k⟩,S⟩
  cases u
theorem log2_small {i:Int} (h:i.natAbs < 2 ^ 60):i.natAbs.log2 < 60:=by
 by_cases e:i.natAbs=0
 .rw [e];decide
 .exact (Nat.log2_lt e).mpr h
theorem bF {i j:Int} (h:i.natAbs < 2 ^ 60) (x:j.natAbs < 2 ^ 60):fo i j=true:=by unfold fo;have a:=log2_small h;have b:=log2_small x;exact im (by lia)
theorem Dm:∀(n:Nat) (v:P),dq n v=true->dq (n+1) v=true:=by
 intro n;induction n with
 | zero=>intro v h;cases v <;> first | rfl | exact h | cases h
 | succ n i=>
  intro v h;cases v with
  | tup s=>exact bQ.mpr fun x a=>i x (bQ.mp h x a)
  | lst s=>exact bQ.mpr fun x a=>i x (bQ.mp h x a)
  | ro s=>exact bQ.mpr fun x a=>i x (bQ.mp h x a)
  | non=>rfl
  | bl _=>rfl
  | int _=>rfl
  | str _=>exact h
  | dct _ _=>cases h
theorem gH (h:dq n v=true) (m:n≤e):dq e v=true:=by
 obtain⟨k,rfl⟩:=Nat.exists_eq_add_of_le m;clear m;induction k with
 | zero=>exact h
 | succ k i=>exact Dm _ _ i
noncomputable def strOk (x:Str):Prop:=PyData.strOk x=true
@[simp] theorem Hz (n:Nat) (i:Int):dq n (.int i)=true:=by cases n <;> rfl
@[simp] theorem Jr (n:Nat) (i:Bool):dq n (.bl i)=true:=by cases n <;> rfl
@[simp] theorem Hx (n:Nat):dq n .non=true:=by cases n <;> rfl
@[simp] theorem Hw (n:Nat) (x:Str):dq n (.str x)=PyData.strOk x:=by cases n <;> rfl
@[simp] theorem Hv (n:Nat) (s:List P):dq (n+1) (.tup s)=s.all (dq n):=rfl
@[simp] theorem Hy (n:Nat) (s:List P):dq (n+1) (.lst s)=s.all (dq n):=rfl
theorem Js (h:∀x ∈ s,dq n x=true):dq (n+1) (.lst s)=true:=bQ.mpr h
@[simp] theorem vS (c:Nat):Str.length ⟨#[c]⟩=1:=rfl
variable {x:Str}
theorem wM (h:strOk x) (a:strOk y):strOk (x++y):=by show (x.cps++y.cps).all (fun c=>decide (c < 0x110000))=true;rw [Array.all_append,Bool.and_eq_true];exact⟨h,a⟩
theorem wL (e:strOk x) (n:Nat):strOk (dM x n):=by
 have k:∀(n:Nat) (a:Array Nat),a.all (fun c=>decide (c < 0x110000))=true->((List.replicate n x.cps).foldl (·++·) a).all (fun c=>decide (c < 0x110000))=true:=by
  intro n;induction n with
  | zero=>intro a h;exact h
  | succ n i=>intro a h;rw [dE,gF];exact i _ (by rw [Array.all_append,Bool.and_eq_true];exact⟨h,e⟩)
 exact k n #[] (by simp)
variable {k:Int}
theorem zK (f:strOk x) (a:0≤k) (s:k < x.length) (n:x.length≤1000000):∃c,strOk ⟨#[c]⟩/\am (.str x) (.int k)=some (.str ⟨#[c]⟩):=by
 have l:k.toNat < x.cps.toList.length:=by simp only [mW];unfold Str.length at s;lia
 have h:k.toNat < x.cps.size:=by simpa using l
 refine⟨x.cps.toList[k.toNat],?_,?_⟩
 .have:=Array.all_eq_true.mp f k.toNat h;show (#[x.cps.toList[k.toNat]].all fun c=>decide (c < 0x110000))=true;simpa using this
 .have e:L2.atI x.cps.toList k=some (x.cps.toList[k.toNat]):=bn a (by simp [h]);show (if gc x.length=true then (L2.atI x.cps.toList k).map fun c=>P.str ⟨#[c]⟩ else none)=_;rw [if_pos (by simp only [kH];exact n),e];rfl
theorem xy (h:x.length+y.length≤1000000):rG (.str x) (.str y)=some (.str (x++y)):=by show (if gc (x.length+y.length)=true then some (P.str (x++y)) else none)=_;rw [if_pos (by rw [kH];exact h)]
variable {s:List a}
theorem eA (h:s≠[]) (a:Int):∃x ∈ s,L2.atI s (a % (s.length:Int))=some x:=by
 have l:(0:Int) < (s.length:Int):=by cases s with | nil=>exact absurd rfl h | cons _ _=>simp
 have e:=dD a (Int.ne_of_gt l);have n:=d6 a l;have k:(a % (s.length:Int)).toNat < s.length:=by lia
 exact⟨s[(a % (s.length:Int)).toNat],fw _,bn e (by simp [k])⟩
theorem va (h:0≤k) (e:k < (s.length:Int)):∃x ∈ s,L2.atI s k=some x:=by
 have a:k.toNat < s.length:=by lia
 exact⟨s[k.toNat],fw _,bn h (by simp [a])⟩
theorem atI_last (h:s≠[]):∃x ∈ s,L2.atI s (-1)=some x:=by
 have l:0 < s.length:=List.length_pos_iff.mpr h;refine⟨s[s.length-1],fw _,?_⟩;unfold L2.atI L2.w_;rw [if_neg (by lia),if_pos (by lia)];have e:(-1+(s.length:Int)).toNat=s.length-1:=by lia
 simp [e,l]
theorem bb {g:iY}{b:ES}{Inv:Nat->Lc->aJ->Prop}:∀{s:List P}{k:Nat}{L:Lc}{S:aJ},(∀i v L S,s[i]? = some v->Inv (k+i) L S->∃f L2 n,g v L=some f/\b f S=some (.nx,L2,n)/\Inv (k+i+1) L2 n)->Inv k L S ->
  ∃x a,aZ g b s L S=some (.nx,x,a)/\Inv (k+s.length) x a
 | [],k,L,S,_,h=>⟨L,S,rfl,h⟩
 | v::r,k,L,S,c,h=>by
  obtain⟨f,L2,n,m,t,d⟩:=c 0 v L S rfl h;obtain⟨x,a,p,u⟩:=bb (g:=g) (b:=b) (Inv:=Inv) (s:=r) (k:=k+1) (L:=L2) (S:=n) (fun i w L S e q=>by have:=c (i+1) w L S (by simpa using e) (by rw [show k+(i+1)=k+1+i by lia];exact q);rwa [show k+(i+1)+1=k+1+i+1 by lia] at this) d
  exact⟨x,a,by rw [bC m t];exact p,by rw [bx,show k+(r.length+1)=k+1+r.length by lia];exact u⟩
theorem jB {g:iY}{c:EB}{e:EV}{Inv:Lc->Prop}{Q:P->Prop}{S:aJ}:∀{s:List P}{L:Lc},(∀v ∈ s,∀L,Inv L->∃x k,g v L=some x/\Inv x/\c x S=some (k,S)/\(k=true->∃y,e x S=some (y,S)/\Q y))->Inv L ->
  ∃a,br g c e s L S=some (a,S)/\(∀y ∈ a,Q y)/\a.length≤s.length
 | [],L,_,h=>⟨[],rfl,fun _ z=>(by cases z),Nat.le_refl _⟩
 | v::r,L,t,h=>by
  obtain⟨x,k,n,i,f,d⟩:=t v List.mem_cons_self L h;obtain⟨a,b,m,j⟩:=jB (s:=r) (L:=x) (fun w hw=>t w (bg _ hw)) i;cases k with
  | false=>exact⟨a,by simp [br,n,f,b],m,by simp;lia⟩
  | true=>obtain⟨y,p,q⟩:=d rfl;exact⟨y::a,by simp [br,n,f,b,p],fun z u=>(az.mp u).elim (fun e=>e ▸ q) (m z),by simp;lia⟩
theorem iJ {g:iY}{e:EV}{Inv:Lc->Prop}{Q:P->Prop}{S:aJ}:∀{s:List P}{L:Lc},(∀v ∈ s,∀L,Inv L->∃x y,g v L=some x/\Inv x/\e x S=some (y,S)/\Q y)->Inv L ->
  ∃a,br g eT e s L S=some (a,S)/\(∀y ∈ a,Q y)/\a.length=s.length
 | [],L,_,h=>⟨[],rfl,fun _ z=>(by cases z),rfl⟩
 | v::r,L,n,h=>by obtain⟨x,y,k,i,f,q⟩:=n v List.mem_cons_self L h;obtain⟨a,b,c,m⟩:=iJ (s:=r) (L:=x) (fun w hw=>n w (bg _ hw)) i;exact⟨y::a,by simp [br,k,f,b],fun z t=>(az.mp t).elim (fun e=>e ▸ q) (c z),by simp [m]⟩
theorem bM {g:iY}{c:EB}{e:EV}{Inv:Lc->Prop}{S:aJ}{p:P->Bool}{f:P->P}:∀{s:List P}{L:Lc},(∀v ∈ s,∀L,Inv L->∃x,g v L=some x/\Inv x/\c x S=some (p v,S)/\(p v=true->e x S=some (f v,S)))->Inv L ->
  br g c e s L S=some ((s.filter p).map f,S)
 | [],L,_,h=>rfl
 | v::r,L,m,h=>by
  obtain⟨x,n,i,a,t⟩:=m v List.mem_cons_self L h;have b:=bM (s:=r) (L:=x) (fun w hw=>m w (bg _ hw)) i;cases k:p v with
  | false=>rw [k] at a;simp [br,n,a,b,k]
  | true=>rw [k] at a;simp [br,n,a,b,k,t k]
theorem ints_get {lo:Int}{n i:Nat}{v:P} (h:(intsFrom lo n)[i]? = some v):v=.int (lo+i)/\i < n:=by
 unfold Ev.intsFrom at h;rw [List.getElem?_map] at h;cases e:(List.range n)[i]? with
 | none=>rw [e] at h;cases h
 | some j=>
  rw [e] at h;cases h;have:=List.getElem?_eq_some_iff.mp e
  obtain⟨x,a⟩:=this;simp at x a;subst a;exact⟨rfl,x⟩
theorem e_ {lo:Int}{n:Nat}{v:P} (h:v ∈ intsFrom lo n):∃i:Nat,v=.int (lo+i)/\i < n:=by obtain⟨i,x,e⟩:=pP.mp h;exact⟨i,ints_get (by rw [dI x,e])⟩
theorem bv (lo:Int) (n:Nat):(intsFrom lo n).length=n:=by simp [Ev.intsFrom]
theorem yX (k n:Str->GF) (s:List P):∀(a:Int) (p t q:Option D),∃(r:Int) (e:Option D),aZ (ag 2) (gS k n) s [qi a,p,t,q] []=some (.nx,[qi r,p,e,q],[]):=by
 induction s with
 | nil=>intro a p t q;exact⟨a,t,rfl⟩
 | cons x s i=>intro a p t q;obtain⟨r,e,h⟩:=i (a / 2147483648) p (qp x) q;exact⟨r,e,by simpa [aZ,gS] using h⟩
theorem qB (i:2≤n) (a:Int) {p:Int} (s:0≤p) (k:p < 1000):∃r:Int,0≤r/\pureOf (Ph n "_law_mix") [.int a,.int p]=some (.int r):=by
 obtain⟨n,rfl⟩:=fV (n:=n) (by first | assumption | lia);by_cases h:(1000000000000:Int)≤a
 .obtain⟨r,j,e⟩:=yX (Ph (n+1)) (Ph n) (intsFrom 0 (p % 61).toNat) (a / 1000000000000-1) (qi p) none none;refine⟨r % 2147483648,dD _ (by decide),?_⟩;have c:(p % 61).natAbs < 1000000:=by lia
  rw [lT,aj];simp [jq,h,c,e]
 .have m:0≤p * p/\p * p≤1000000:=⟨Int.mul_nonneg s s,Int.le_trans (Int.mul_le_mul (Int.le_of_lt k) (Int.le_of_lt k) s (by decide)) (by decide)⟩;have v:fo p p=true:=bF (by lia) (by lia);have d:fo (p * p) 7919=true:=bF (by lia) (by decide);have w:fo (a % 1000003+p * p * 7919+p) 48271=true:=bF (by lia) (by decide);generalize f:(a % 1000003+p * p * 7919+p) * 48271 % 2147483629=x;have t:0≤x/\x < 2147483629:=by subst f;exact⟨dD _ (by decide),d6 _ (by decide)⟩
  have u:fo x x=true:=bF (by lia) (by lia);generalize b:x * x % 2147483587=y;have q:0≤y/\y < 2147483587:=by subst b;exact⟨dD _ (by decide),d6 _ (by decide)⟩
  have g:fo y (y+2)=true:=bF (by lia) (by lia);refine⟨y * (y+2) % 2147483579 / 7,Int.ediv_nonneg (dD _ (by decide)) (by decide),?_⟩;rw [lT,aj];simp [jq,h,v,d,w,f,u,b,g]
noncomputable def cZ (n:List Int):P:=.ro (n.map .int)
theorem rJ (f:2≤n) (s:List Int) (x:0≤k):∃r:Int,pureOf (Ph n "_law_cell_at") [cZ s,.int k]=some (.int r):=by
 obtain⟨n,rfl⟩:=fV (n:=n) (by first | assumption | lia);by_cases h:k < (s.length:Int)
 .have a:k.toNat < s.length:=by lia
  refine⟨s[k.toNat],?_⟩;have e:L2.atI (s.map P.int) k=some (.int s[k.toNat]):=bn x (by simp [a]);rw [iU,aj];simp [gi,cZ,cj,cQ,h,e]
 .refine⟨0,?_⟩;rw [iU,aj];simp [gi,cZ,cj,cQ,h]
theorem hE {n:Nat} (h:2≤n) (s:List Int) {k p:Int} (a:0≤k) (f:0≤p) (b:p < 1000):∃c r:Int,0≤r/\pureOf (Ph n "_law_cell_at") [cZ s,.int k]=some (.int c)/\pureOf (Ph n "_law_mix") [.int c,.int p]=some (.int r):=by obtain⟨c,e⟩:=rJ h s a;obtain⟨r,m,x⟩:=qB h c f b;exact⟨c,r,m,e,x⟩
theorem Dl:strOk "xyz":=by unfold strOk;decide +kernel
theorem vR:("xyz":Str).length=3:=by decide +kernel
theorem G9:∀k:Nat,k < 16->am (.str "abcdefghijklmnop") (.int (k:Int))=some (.str ⟨#[97+k]⟩):=by
 intro k h;have e:∀k:Nat,k < 16->L2.atI ((("abcdefghijklmnop":Str)).cps.toList) (k:Int)=some (97+k):=by decide +kernel
 show (if gc (("abcdefghijklmnop":Str)).length=true then (L2.atI ((("abcdefghijklmnop":Str)).cps.toList) (k:Int)).map fun c=>P.str ⟨#[c]⟩ else none)=_;rw [e k h,if_pos (by decide +kernel)];rfl
noncomputable def hd (x:Str):Option Nat:=x.cps[0]?
theorem CO (c n:Nat) (x:Str):hd (dM ⟨#[c]⟩ (n+1)++x)=some c:=by
 have k:∀(n:Nat) (a:Array Nat),a[0]? = some c->((List.replicate n #[c]).foldl (·++·) a)[0]? = some c:=by
  intro n;induction n with
  | zero=>intro a h;exact h
  | succ n i=>intro a h;rw [dE,gF];refine i _ ?_;have s:0 < a.size:=(Array.getElem?_eq_some_iff.mp h).1;rw [Array.getElem?_append_left s];exact h
 have h:=k n (#[]++#[c]) (by simp);have s:0 < ((List.replicate n #[c]).foldl (·++·) (#[]++#[c])).size:=(Array.getElem?_eq_some_iff.mp h).1;show (((List.replicate (n+1) #[c]).foldl (·++·) #[])++x.cps)[0]? = some c;rw [dE,gF,Array.getElem?_append_left s];exact h
theorem mJ {n:Nat} (v:3≤n) (s:List Int) {k:Nat} (r:k < 16):∃x:Str,strOk x/\hd x=some (97+k)/\pureOf (Ph n "_law_name") [cZ s,.int (k:Int)]=some (.str x):=by
 obtain⟨n,rfl⟩:=fV (n:=n) (by first | assumption | lia);obtain⟨c,a,q,e,b⟩:=hE (n:=n+1) (by lia) s (k:=1) (p:=(k:Int)) (by lia) (by lia) (by lia);have u:=G9 k r;obtain⟨d,h,f⟩:=zK (k:=a / 4 % 3) Dl (by lia) (by rw [vR];lia) (by rw [vR];lia);have t:strOk ⟨#[97+k]⟩:=by show (#[97+k].all fun c=>decide (c < 0x110000))=true;simp;lia
 have m:rF (.str ⟨#[97+k]⟩) (.int (1+a % 4))=some (.str (dM ⟨#[97+k]⟩ ((a % 4).toNat+1))):=by show (if (gc ((1+a % 4).toNat * 1) && decide ((1+a % 4).natAbs < 1000000))=true then some (P.str (dM ⟨#[97+k]⟩ (1+a % 4).toNat)) else none)=_;rw [if_pos (by rw [Bool.and_eq_true,kH];exact⟨by lia,im (by lia)⟩),show (1+a % 4).toNat=(a % 4).toNat+1 by lia]
 have z:=xy (x:=dM ⟨#[97+k]⟩ ((a % 4).toNat+1)) (y:=⟨#[d]⟩) (by rw [jJ,vS,vS];lia);refine⟨dM ⟨#[97+k]⟩ ((a % 4).toNat+1)++⟨#[d]⟩,wM (wL t _) h,CO _ _ _,?_⟩;rw [qP,aj];simp [kL,e,b,u,f,m,z]
theorem Jw (a:Int):∃r:Int,-1≤r/\r≤5/\L2.atI [P.int 0,.int 0,.int (-1),.int 5] (a % 4)=some (.int r):=by
 have h:a % 4=0\/a % 4=1\/a % 4=2\/a % 4=3:=by lia
 rcases h with h | h | h | h <;> rw [h] <;> simp
theorem Gy (a:Int):∃r:Int,0≤r/\r≤2/\L2.atI [P.int 1,.int 2,.int 0,.int 1] (a % 4)=some (.int r):=by
 have h:a % 4=0\/a % 4=1\/a % 4=2\/a % 4=3:=by lia
 rcases h with h | h | h | h <;> rw [h] <;> simp
noncomputable def lS (v:P):Prop:=∃x lo h a,strOk x/\-1≤lo/\lo≤a/\a≤h/\h≤7/\v=.tup [.str x,.int lo,.int h,.int a]
noncomputable def be:P->Str
 | .tup (.str s::_)=>s
 | _=>""
noncomputable def wv (v:List P):Prop:=(∀c ∈ v,lS c)/\∀i c,v[i]? = some c->hd (be c)=some (99+i)
@[simp] theorem x9 (v:List P):toP 9 (.ref 0) [.lst (v.map .p)]=some (.lst v,[.fz (.lst v)]):=eB rfl
theorem cv (s:List P) (v:P):s.map D.p++[.p v]=(s++[v]).map .p:=by simp
theorem dg {Q:P->Prop}{s:List P}{v:P} (h:∀x ∈ s,Q x) (e:Q v):∀x ∈ s++[v],Q x:=fun x a=>(dL.mp a).elim (h x) fun a=>by rw [j0.mp a];exact e
theorem sT {Q:Nat->P->Prop}{s:List P}{v:P} (h:∀i x,s[i]? = some x->Q i x) (n:Q s.length v):∀i x,(s++[v])[i]? = some x->Q i x:=fun i x a=>by
 by_cases e:i < s.length
 .rw [List.getElem?_append_left e] at a;exact h i x a
 .rw [fZ (by lia)] at a;have:i-s.length=0:=by
   have:=(List.getElem?_eq_some_iff.mp a).1;simp at this;lia
  rw [this] at a;cases a;rw [show i=s.length by lia];exact n
theorem zL {n:Nat} (hn:4≤n) (t:List Int) {f m:Int} (h0:0≤f) (h1:0≤m) (h2:m≤3):∃r:List P,r.length≤m.toNat/\wv r/\pureOf (Ph n "_law_cells") [cZ t,.int f,.int m]=some (.lst r):=by
 obtain⟨n,rfl⟩:=fV (n:=n) (by first | assumption | lia);obtain⟨c,a,ha,G,I⟩:=hE (n:=n+1) (by lia) t (k:=2+f) (p:=1) (by lia) (by lia) (by lia);have hm:a % (m+1) < m+1:=d6 _ (by lia);have T:0≤a % (m+1):=dD _ (by lia);let Inv:Nat->Lc->aJ->Prop:=fun i L S=>∃(r:List P) (H F K A:Option D),r.length=i/\wv r/\L=[qp (cZ t),qi f,qi m,some (.ref 0),H,F,K,A]/\S=[.lst (r.map .p)]
 obtain⟨Z,S',e,r,H,F,K,A,j,o,rfl,rfl⟩:=bb (g:=ag 4) (b:=fH (Ph (n+1)) (Ph n)) (Inv:=Inv) (s:=Ev.intsFrom 0 (a % (m+1)).toNat) (k:=0)
  (L:=[qp (cZ t),qi f,qi m,some (.ref 0),none,none,none,none]) (S:=[.lst []]) (fun i v L S W O=>by
   obtain⟨rfl,hi⟩:=ints_get W;obtain⟨r,H,F,K,A,j,o,rfl,rfl⟩:=O;obtain⟨c2,d,hd,C,E⟩:=hE (n:=n+1) (by lia) t (k:=2+f) (p:=2+(i:Int)) (by lia) (by lia) (by lia);obtain⟨x,Y,y,N⟩:=mJ (n:=n+1) (by lia) t (k:=2+i) (by lia);obtain⟨lo,l,R,J⟩:=Jw d;obtain⟨u,V,B,M⟩:=Gy (d / 4);have z:0 < lo+u-lo+1:=by lia
   have Q:r.length≤1000000:=by lia
   generalize hw:d / 16 % (lo+u-lo+1)=w;have X:0≤w/\w < lo+u-lo+1:=by subst hw;exact⟨dD _ (by lia),d6 _ z⟩
   refine⟨_,[qp (cZ t),qi f,qi m,some (.ref 0),qi (i:Int),qi d,qi lo,qi (lo+u)],[.lst ((r++[P.tup [.str x,.int lo,.int (lo+u),.int (lo+w)]]).map D.p)],rfl,?_,_,_,_,_,_,by simp;lia,⟨dg o.1 ⟨x,lo,lo+u,lo+w,Y,l,by lia,by lia,by lia,rfl⟩,sT o.2 ?_⟩,rfl,rfl⟩
   .rw [<- cv];have q:pureOf (Ph (n+1) "_law_name") [cZ t,.int (2+(i:Int))]=some (.str x):=by rw [<- N];rfl
    simp [fH,C,E,q,J,M,z,dk,Q,hw]
   .show My.hd x=_;rw [y,j];congr 1;lia) ⟨[],none,none,none,none,rfl,⟨fun _ h=>(by cases h),fun _ _ h=>(by cases h)⟩,rfl,rfl⟩
 refine⟨r,by rw [j,bv];lia,o,?_⟩;have U:(a % (m+1)).natAbs < 1000000:=by lia
 have z:0 < m+1:=by lia
 rw [ov,aj];simp [jS,G,I,U,z,e]
@[simp] theorem Hq:PyData.strOk "number"=true/\PyData.strOk "name"=true/\PyData.strOk "plus"=true/\PyData.strOk "minus"=true/\PyData.strOk "times"=true/\PyData.strOk "true"=true/\PyData.strOk "not"=true/\PyData.strOk "or"=true/\PyData.strOk "and"=true/\PyData.strOk "is"=true/\PyData.strOk "="=true/\PyData.strOk "!="=true/\PyData.strOk "<"=true/\PyData.strOk "<="=true/\PyData.strOk ">"=true/\PyData.strOk ">="=true/\PyData.strOk "row"=true/\PyData.strOk "heap"=true/\PyData.strOk "ma"=true/\PyData.strOk "mb"=true/\PyData.strOk "who"=true/\PyData.strOk "all"=true/\PyData.strOk "any"=true/\PyData.strOk ""=true/\PyData.strOk "it"=true/\PyData.strOk "weak"=true/\PyData.strOk "strong"=true/\PyData.strOk "step"=true/\PyData.strOk "lose"=true/\PyData.strOk "double"=true:=by decide +kernel
noncomputable def kj (v:P):Prop:=∃s:Str,PyData.strOk s=true/\v=.str s
theorem kj.ok (h:kj v) (n:Nat):dq n v=true:=by obtain⟨s,h,rfl⟩:=h;simpa using h
theorem gK {s:List P} (h:∀x ∈ s,kj x) (n:Nat):dq (n+1) (.lst s)=true:=Js fun x a=>(h x a).ok n
theorem bc (h:s≠[]):s.isEmpty=false:=by cases s with | nil=>exact absurd rfl h | cons _ _=>rfl
theorem len_pos (h:s≠[]):0 < s.length:=List.length_pos_iff.mpr h
noncomputable abbrev lg (k:Int):P:=.tup [.str "number",.int k]
noncomputable abbrev mf (y:P):P:=.tup [.str "name",y]
noncomputable def sN (N:List P) (v:P):Prop:=(∃k,v=lg k)\/∃y ∈ N,v=mf y\/(∃k,v=.tup [.str "plus",mf y,lg k])\/(∃k j:Int,0≤k/\k≤2/\v=.tup [.str "minus",.tup [.str "times",mf y,lg k],lg j])\/v=.tup [.str "minus",lg 1,mf y]
theorem ur {n:Nat} (m:2≤n) (d:Int) {s:List P} (c:∀x ∈ s,kj x):∃v,sN s v/\pureOf (Ph n "_law_sum") [.int d,.lst s]=some v:=by
 obtain⟨n,rfl⟩:=fV (n:=n) (by first | assumption | lia);have e:=v_ (gK c 19);by_cases k:s=[]
 .subst k;refine⟨lg (d / 5 % 3),.inl ⟨_,rfl⟩,?_⟩;rw [eQ,aj];simp [dQ,e]
 rw [bc k] at e;have l:=len_pos k;obtain⟨y,f,a⟩:=eA k (d / 5);have b:d % 5=0\/d % 5=1\/d % 5=2\/d % 5=3\/d % 5=4:=by lia
 rcases b with h | h | h | h | h
 .refine⟨lg (d / 5 % 3),.inl ⟨_,rfl⟩,?_⟩;rw [eQ,aj];simp [dQ,e,h]
 .refine⟨mf y,.inr ⟨y,f,.inl rfl⟩,?_⟩;rw [eQ,aj];simp [dQ,e,h,cj,cQ,l,a]
 .refine⟨.tup [.str "plus",mf y,lg (d / 20 % 3)],.inr ⟨y,f,.inr (.inl ⟨_,rfl⟩)⟩,?_⟩;rw [eQ,aj];simp [dQ,e,h,cj,cQ,l,a]
 .refine⟨.tup [.str "minus",.tup [.str "times",mf y,lg (d / 20 % 3)],lg (d / 60 % 2)],.inr ⟨y,f,.inr (.inr (.inl ⟨_,_,by lia,by lia,rfl⟩))⟩,?_⟩;rw [eQ,aj];simp [dQ,e,h,cj,cQ,l,a]
 .refine⟨.tup [.str "minus",lg 1,mf y],.inr ⟨y,f,.inr (.inr (.inr rfl))⟩,?_⟩;rw [eQ,aj];simp [dQ,e,h,cj,cQ,l,a]
noncomputable def kD (N:List P) (v:P):Prop:=∃w y s,y ∈ N/\sN N s/\PyData.strOk w=true/\v=.tup [.str "is",.str w,mf y,s]
noncomputable def uN (N:List P) (v:P):Prop:=v=.tup [.str "true"]\/kD N v\/(∃p,kD N p/\v=.tup [.str "not",p])\/∃p z,kD N p/\z ∈ N/\v=.tup [.str "or",p,.tup [.str "and",.tup [.str "true"],.tup [.str "is",.str "=",lg 1,mf z]]]
theorem w6 (a:Int):∃w:Str,PyData.strOk w=true/\L2.atI [P.str "=",.str "!=",.str "<",.str "<=",.str ">",.str ">="] (a % 6)=some (.str w):=by obtain⟨w,hw,e⟩:=va (s:=[P.str "=",.str "!=",.str "<",.str "<=",.str ">",.str ">="]) (k:=a % 6) (by lia) (by simp;lia);simp only [az,dj,di] at hw;rcases hw with rfl | rfl | rfl | rfl | rfl | rfl <;> exact⟨_,by simp,e⟩
theorem Bs {n:Nat} (j:3≤n) (d:Int) {s:List P} (m:∀x ∈ s,kj x):∃v,uN s v/\pureOf (Ph n "_law_condition") [.int d,.lst s]=some v:=by
 obtain⟨n,rfl⟩:=fV (n:=n) (by first | assumption | lia);have e:=v_ (gK m 19);by_cases a:s=[]
 .subst a;refine⟨.tup [.str "true"],.inl rfl,?_⟩;rw [cJ,aj];simp [b7,e]
 rw [bc a] at e;have l:=len_pos a;obtain⟨y,g,c⟩:=eA a (d / 30);obtain⟨z,i,r⟩:=va (s:=s) (k:=0) (by lia) (by lia);obtain⟨w,hw,b⟩:=w6 (d / 5);obtain⟨v,u,f⟩:=ur (n:=n+1) (by lia) (d / 90) m;have p:kD s (.tup [.str "is",.str w,mf y,v]):=⟨w,y,v,g,u,hw,rfl⟩;by_cases t:d % 5 < 2
 .refine⟨.tup [.str "true"],.inl rfl,?_⟩;rw [cJ,aj];simp [b7,e,t]
 have q:d % 5=2\/d % 5=3\/d % 5=4:=by lia
 rcases q with h | h | h
 .refine⟨_,.inr (.inr (.inl ⟨_,p,rfl⟩)),?_⟩;rw [cJ,aj];simp [b7,e,h,cj,cQ,l,c,b,f]
 .refine⟨_,.inr (.inr (.inr ⟨_,z,p,i,rfl⟩)),?_⟩;rw [cJ,aj];simp [b7,e,h,cj,cQ,l,c,r,b,f]
 .refine⟨_,.inr (.inl p),?_⟩;rw [cJ,aj];simp [b7,e,h,cj,cQ,l,c,b,f]
noncomputable def ga (v:P):Prop:=∃(a b k:Str) (c:Int) (d e:Bool),PyData.strOk a=true/\PyData.strOk b=true/\(k="row"\/k="heap")/\1≤c/\c≤3/\v=.tup [.str a,.str b,.str k,.int c,.bl d,.bl e]
noncomputable def rA:P->Str
 | .tup (.str a::_)=>a
 | _=>""
noncomputable def rB:P->Str
 | .tup (_::.str b::_)=>b
 | _=>""
noncomputable def B' (F:List P) (v:List P):Prop:=v.length≤8/\∀r ∈ v,ga r/\.str (rA r) ∈ F/\.str (rB r) ∈ F
theorem BQ {a b:P} (d:Int):∃w,(w=a\/w=b)/\L2.atI [a,b] (d % 2)=some w:=by obtain⟨w,hw,e⟩:=va (s:=[a,b]) (k:=d % 2) (by lia) (by simp;lia);exact⟨w,by simpa using hw,e⟩
theorem dO {s:List P}{i:Nat}{v:P} (h:(bj 0 s)[i]? = some v):∃x,s[i]? = some x/\v=.tup [.int (i:Int),x]:=by obtain⟨x,a,e⟩:=lw h;exact⟨x,a,by rw [e];simp⟩
theorem ba {a:Type}{s:List a}{i:Nat}{x:a} (h:s[i]? = some x):i < s.length:=(List.getElem?_eq_some_iff.mp h).1
theorem yo {n:Nat} (hn:3≤n) (r:List Int) {s:List P} (W:∀x ∈ s,kj x) (hl:s.length≤4) {m:Int} (V:0 < m) (h3:m≤3):∃f:List P,B' s f/\pureOf (Ph n "_law_roads") [cZ r,.lst s,.int m]=some (.lst f):=by
 obtain⟨n,rfl⟩:=fV (n:=n) (by first | assumption | lia);let I:Option D->Option D->Nat->Lc->aJ->Prop:=fun k o _ L S=>∃(f:List P) (u z H q:Option D),B' s f/\L=[qp (cZ r),ql s,qi m,some (.ref 0),k,o,u,z,H,q]/\S=[.lst (f.map .p)]
 let Inv:Nat->Lc->aJ->Prop:=fun i L S=>∃k o,I k o i L S
 obtain⟨T,U,e,k0,X,f,u,z,H,q,t,rfl,rfl⟩:=bb (g:=aV [ag 4,ag 5]) (b:=fG (Ph (n+1)) (Ph n)) (Inv:=Inv) (s:=bj 0 s) (k:=0)
  (L:=[qp (cZ r),ql s,qi m,some (.ref 0),none,none,none,none,none,none]) (S:=[.lst []]) (fun i v L S Q N=>by
   obtain⟨x,A,rfl⟩:=dO Q;have hi:=ba A;have B:=bA A;obtain⟨a,Y,rfl⟩:=W x B;obtain⟨_,_,f,u,z,H,q,t,rfl,rfl⟩:=N;obtain⟨T,U,e,O⟩:=bb (g:=aV [ag 6,ag 7]) (b:=de (Ph (n+1)) (Ph n)) (Inv:=I (qi (i:Int)) (qs a)) (s:=bj 0 s) (k:=0)
    (L:=[qp (cZ r),ql s,qi m,some (.ref 0),qi (i:Int),qs a,u,z,H,q]) (S:=[.lst (f.map .p)]) (fun j v L S Q N=>by
     obtain⟨y,C,rfl⟩:=dO Q;have hj:=ba C;have E:=bA C;obtain⟨b,Z,rfl⟩:=W y E;obtain⟨f,u,z,H,q,t,rfl,rfl⟩:=N;obtain⟨c,d,hd,J,M⟩:=hE (n:=n+1) (by lia) r (k:=4) (p:=30+4 * (i:Int)+(j:Int)) (by lia) (by lia) (by lia);have R:fo 4 (i:Int)=true:=bF (by decide) (by lia);by_cases hg:0 < d % 4/\f.length < 8
     .obtain⟨w,hw,G⟩:∃w:Str,(w="row"\/w="heap")/\L2.atI [P.str "row",.str "heap"] (d / 4 % 2)=some (.str w):=by
       obtain⟨w,hw,G⟩:=BQ (a:=.str "row") (b:=.str "heap") (d / 4);rcases hw with rfl | rfl
       .exact⟨_,.inl rfl,G⟩
       .exact⟨_,.inr rfl,G⟩
      have K:f.length≤1000000:=by lia
      have c0:0≤d / 8 % m:=dD _ (by lia);have c1:d / 8 % m < m:=d6 _ V;refine⟨_,[qp (cZ r),ql s,qi m,some (.ref 0),qi (i:Int),qs a,qi (j:Int),qs b,qi d,qs w],[.lst ((f++[P.tup [.str a,.str b,.str w,.int (1+d / 8 % m),.bl (decide (d / 24 % 3=1)),.bl (decide (d / 72 % 3=1))]]).map D.p)],rfl,?_,_,_,_,_,_,⟨by simp;lia,dg t.2 ⟨⟨a,b,w,_,_,_,Y,Z,hw,by lia,by lia,rfl⟩,B,E⟩⟩,rfl,rfl⟩;rw [<- cv];have l:(f.length:Int) < 8:=by lia
      simp [de,J,M,R,hg.1,cj,l,G,V,dk,K]
     .refine⟨_,[qp (cZ r),ql s,qi m,some (.ref 0),qi (i:Int),qs a,qi (j:Int),qs b,qi d,q],[.lst (f.map D.p)],rfl,?_,f,_,_,_,_,t,rfl,rfl⟩;by_cases F:0 < d % 4
      .have l:¬(f.length:Int) < 8:=by lia
       simp [de,J,M,R,F,cj,l]
      .simp [de,J,M,R,F,cj]) ⟨f,u,z,H,q,t,rfl,rfl⟩
   exact⟨_,T,U,rfl,by simpa [fG] using e,_,_,O⟩) ⟨none,none,[],none,none,none,none,⟨by simp,fun _ h=>(by cases h)⟩,rfl,rfl⟩
 refine⟨f,t,?_⟩;rw [oq,aj];simp [jQ,e]
end My
namespace My
open PySem L2 Ev
variable {s:Str}{l:List P}
theorem uA (H:∀c ∈ l,ga c) (L:Lc) (j k:Nat) (t:j < L.length) (h:k≠j) (z:L[k]? = some (qs s)) (S:aJ) :
  ∃f,br (ag j) (bV (aH d9 (eV (ab am (vv j) (vi 0))) (aa k))) (ab am (vv j) (vi 1)) l L S=some (f,S)/\(∀y ∈ f,kj y/\∃r ∈ l,rA r=s/\y=.str (rB r))/\f.length≤l.length:=by
 refine jB (Inv:=fun m=>∃d,m=L.set j d) (fun v p m u=>?_) ⟨L[j],(ip t).symm⟩;obtain⟨d,rfl⟩:=u;obtain⟨a,b,n,c,x,e,F,i,o,_,_,rfl⟩:=H v p;have g:((L.set j d).set j (qp (.tup [.str a,.str b,.str n,.int c,.bl x,.bl e])))[j]? = some (qp (.tup [.str a,.str b,.str n,.int c,.bl x,.bl e])):=by rw [cL (by simpa using t)]
 have w:((L.set j d).set j (qp (.tup [.str a,.str b,.str n,.int c,.bl x,.bl e])))[k]? = some (qs s):=by rw [bt (Ne.symm h),bt (Ne.symm h)];exact z
 exact⟨_,decide (a=s),rfl,⟨_,List.set_set ..⟩,by simp [-List.set_set,g,w],fun q=>⟨.str b,by simp [-List.set_set,g],⟨b,i,rfl⟩,_,p,of_decide_eq_true q,rfl⟩⟩
theorem wP (H:∀c ∈ l,ga c) (L:Lc) (j k:Nat) (t:j < L.length) (h:k≠j) (z:L[k]? = some (qs s)) (S:aJ) :
  ∃f,br (ag j) (bV (aH d9 (eV (ab am (vv j) (vi 1))) (aa k))) (ab am (vv j) (vi 0)) l L S=some (f,S)/\(∀y ∈ f,kj y/\∃r ∈ l,rB r=s/\y=.str (rA r))/\f.length≤l.length:=by
 refine jB (Inv:=fun m=>∃d,m=L.set j d) (fun v p m u=>?_) ⟨L[j],(ip t).symm⟩;obtain⟨d,rfl⟩:=u;obtain⟨a,b,n,c,x,e,i,F,o,_,_,rfl⟩:=H v p;have g:((L.set j d).set j (qp (.tup [.str a,.str b,.str n,.int c,.bl x,.bl e])))[j]? = some (qp (.tup [.str a,.str b,.str n,.int c,.bl x,.bl e])):=by rw [cL (by simpa using t)]
 have w:((L.set j d).set j (qp (.tup [.str a,.str b,.str n,.int c,.bl x,.bl e])))[k]? = some (qs s):=by rw [bt (Ne.symm h),bt (Ne.symm h)];exact z
 exact⟨_,decide (b=s),rfl,⟨_,List.set_set ..⟩,by simp [-List.set_set,g,w],fun q=>⟨.str a,by simp [-List.set_set,g],⟨a,i,rfl⟩,_,p,of_decide_eq_true q,rfl⟩⟩
theorem sm (h:l.length≤8):l.length≤1000000:=by lia
theorem nq (d:Int):∃w:Str,(w=a\/w=b)/\L2.atI [P.str a,.str b] (d % 2)=some (.str w):=by
 obtain⟨w,hw,e⟩:=BQ (a:=.str a) (b:=.str b) d;rcases hw with rfl | rfl
 .exact⟨_,.inl rfl,e⟩
 .exact⟨_,.inr rfl,e⟩
noncomputable def nA (s:Str) (l u N:List P) (v:P):Prop:=∃(m:Str) (t:P) (w n:Str),PyData.strOk m=true/\PyData.strOk n=true/\sN N t/\((w="who"/\P.str n ∈ u)\/((w="all"\/w="any")/\∃r ∈ l,rA r=s/\n=rB r))/\v=.tup [.str m,t,.str w,.str n]
variable {n:Nat}{u:List P}
theorem yf (hn:3≤n) (d:Int) (hnm:∀x ∈ nm,kj x) (hw:∀x ∈ u,kj x) (hr:∀c ∈ l,ga c) (hrl:l.length≤8) {m:Int} (h1:0≤m) (h2:m≤3) :
  ∃t:List P,t.length≤3/\(∀c ∈ t,nA s l u nm c)/\pureOf (Ph n "_law_sends") [.int d,.str s,.lst nm,.lst u,.lst l,.int m]=some (.lst t):=by
 obtain⟨n,rfl⟩:=fV (n:=n) (by first | assumption | lia);have hm:d % (m+1) < m+1:=d6 _ (by lia);have hm0:0≤d % (m+1):=dD _ (by lia);obtain⟨gs,eg,X,hgl⟩:=uA (s:=s) hr [qi d,qs s,ql nm,ql u,ql l,qi m,none,none,none,none,none,none,none] 12 1 (by simp) (by lia) rfl [];have W:=jx (gK hw 19);have R:=jx (gK (fun x hx=>(X x hx).1) 19);let F:Option D->Option D->Option D->Option D->Lc:=fun T U q j=>[qi d,qs s,ql nm,ql u,ql l,qi m,ql gs,some (.ref 0),T,U,q,j]
 let Inv:Nat->Lc->aJ->Prop:=fun i L S=>∃(t:List P) (T U q j:Option D),t.length≤i/\(∀c ∈ t,nA s l u nm c)/\L=F T U q j/\S=[.lst (t.map .p)]
 obtain⟨L',S',e,t,T,U,q,j,hc,Z,rfl,rfl⟩:=bb (g:=ag 8) (b:=bN (Ph (n+1)) (Ph n)) (Inv:=Inv) (s:=Ev.intsFrom 0 (d % (m+1)).toNat) (k:=0)
  (L:=F none none none none) (S:=[.lst []]) (fun i v L S hv hI=>by
   obtain⟨rfl,hi⟩:=ints_get hv;obtain⟨t,T,U,q,j,hc,Z,rfl,rfl⟩:=hI;simp only [d5];obtain⟨dv,A,y⟩:∃z:Int,(0 < z/\z < 1152921504606846976)/\L2.atI [P.int 4,.int 1000,.int 100000] (i:Int)=some (.int z):=by
    have:i=0\/i=1\/i=2:=by lia
    rcases this with rfl | rfl | rfl
    .exact⟨4,by decide,by simp⟩
    .exact⟨1000,by decide,by simp⟩
    .exact⟨100000,by decide,by simp⟩
   generalize C:d / dv=o;obtain⟨tr,htr,K⟩:=ur (n:=n+1) (by lia) (o / 12 % 300) hnm;obtain⟨mk,hmk,H⟩:=nq (a:="ma") (b:="mb") o;have omk:PyData.strOk mk=true:=by rcases hmk with rfl | rfl <;> simp
   have B:t.length≤1000000:=by lia
   by_cases O:u≠[]/\o / 2 % 3=1
   .obtain⟨w,E,ew⟩:=eA O.1 (o / 50);obtain⟨w,M,rfl⟩:=hw w E;have hl:=len_pos O.1;refine⟨_,F (qi (i:Int)) (qi o) (qp tr) (qs mk),[.lst ((t++[P.tup [.str mk,tr,.str "who",.str w]]).map D.p)],rfl,?_,_,_,_,_,_,by simp;lia,dg Z ⟨mk,tr,_,w,omk,M,htr,.inl ⟨rfl,E⟩,rfl⟩,rfl,rfl⟩;rw [<- cv];rw [bc O.1] at W;simp [bN,F,y,A,C,K,H,W,O.2,cj,cQ,hl,ew,dk,B]
   .by_cases Q:gs=[]
    .refine⟨_,F (qi (i:Int)) (qi o) (qp tr) (qs mk),[.lst (t.map D.p)],rfl,?_,t,_,_,_,_,by lia,Z,rfl,rfl⟩;rw [Q] at R;by_cases p:u=[]
     .rw [p] at W;simp [bN,F,y,A,C,K,H,W,R,Q,p]
     .rw [bc p] at W;have h3:¬o / 2 % 3=1:=fun z=>O ⟨p,z⟩;simp [bN,F,y,A,C,K,H,W,R,Q,h3]
    .obtain⟨w,E,ew⟩:=eA Q (o / 3);obtain⟨⟨w,M,rfl⟩,r,hrm,hra,N⟩:=X w E;have N:w=rB r:=by cases N;rfl
     have hl:=len_pos Q;rw [bc Q] at R;have V:∀G:Str,(G="all"\/G="any")->(∀L S,(ab am (aW (v2 (vt "all") (vt "any"))) (ab du (ab a_ (ab aK (vv 9) (vi 6)) (vi 2)) (af bJ (v1 (ab z8 (vv 8) (vi 2)))))) (F (qi (i:Int)) (qi o) L S) [.lst (t.map .p)]=some (.str G,[.lst (t.map .p)]))->∃L1 L2 S2,ag 8 (.int (i:Int)) (F T U q j)=some L1/\bN (Ph (n+1)) (Ph n) L1 [.lst (t.map .p)]=some (.nx,L2,S2)/\Inv (0+i+1) L2 S2:=fun G I f=>by
      have f:=f (qp tr) (qs mk);refine⟨_,F (qi (i:Int)) (qi o) (qp tr) (qs mk),[.lst ((t++[P.tup [.str mk,tr,.str G,.str w]]).map D.p)],rfl,?_,_,_,_,_,_,by simp;lia,dg Z ⟨mk,tr,G,w,omk,M,htr,.inr ⟨I,r,hrm,hra,N⟩,rfl⟩,rfl,rfl⟩;rw [<- cv];unfold bN;generalize (ab am (aW (v2 (vt "all") (vt "any"))) (ab du (ab a_ (ab aK (vv 9) (vi 6)) (vi 2)) (af bJ (v1 (ab z8 (vv 8) (vi 2))))))=fa at f ⊢;simp only [F] at f ⊢;by_cases p:u=[]
      .rw [p] at W f ⊢;simp [y,A,C,K,H,W,R,cj,cQ,hl,ew,dk,B,f]
      .rw [bc p] at W;have h3:¬o / 2 % 3=1:=fun z=>O ⟨p,z⟩;simp [y,A,C,K,H,W,R,h3,cj,cQ,hl,ew,dk,B,f]
     by_cases Y:i < 2
     .have J:(i:Int) < 2:=by lia
      obtain⟨G,I,f⟩:=nq (a:="all") (b:="any") (o / 6);have mo:fo (o / 6 % 2) 1=true:=bF (by lia) (by decide);exact V G I fun L S=>by simp [F,Y,J,bJ,iV,mo,f]
     .have J:¬(i:Int) < 2:=by lia
      have mo:fo (o / 6 % 2) 0=true:=bF (by lia) (by decide);exact V "all" (.inl rfl) fun L S=>by simp [F,Y,J,bJ,iV,mo]) ⟨[],none,none,none,none,by simp,fun _ h=>(by cases h),rfl,rfl⟩
 refine⟨t,by rw [bv] at hc;lia,Z,?_⟩;have hq:(d % (m+1)).natAbs < 1000000:=by lia
 have hz:0 < m+1:=by lia
 rw [oo,aj];simp [jP,aY,sm hrl,jI,eg,hq,hz];simp [F] at e;simp [e]
@[simp] theorem F6 (L:Lc) (S:aJ):gI L S=some (none,S):=rfl
@[simp] theorem F5 (a:EV) (L:Lc) (S:aJ):gm a L S=aL (a L S) fun v h=>match v with | .int i=>some (some i,h) | _=>none:=rfl
@[simp] theorem GV (x:List P) (lo h:Option Int):zI (.lst x) lo h=some (.lst (cut x lo h)):=rfl
@[simp] theorem GU (x:List P) (lo h:Option Int):zI (.tup x) lo h=some (.tup (cut x lo h)):=rfl
theorem mP:(∀x ∈ cut h lo i,x ∈ h)/\(cut h lo i).length≤h.length:=by
 unfold cut;refine⟨fun x a=>?_,?_⟩
 .first
   | exact pQ (qa a)
   | exact qa (pQ a)
 .simp only [io,pY];lia
noncomputable def ll (s:Str) (l u:List P) (v:P):Prop:=v=.non\/∃m a i w,PyData.strOk m=true/\PyData.strOk a=true/\PyData.strOk i=true/\PyData.strOk w=true/\(∃r ∈ l,rB r=s/\a=rA r)/\(w=""\/P.str w ∈ u)/\v=.tup [.str m,.str a,.str i,.str w]
noncomputable def more:P->List P
 | .non=>[]
 | _=>[.str "it"]
theorem step_if (ψ ι:Str->GF) {d0:Int} (A:∀x ∈ m,kj x) (hw:∀x ∈ u,kj x) (hs:∀x ∈ j,kj x/\∃r ∈ l,rB r=s/\x=.str (rA r)) :
  ∃tk f Y Z,ll s l u tk/\(∀x ∈ f,kj x)/\f.length≤m.length /\
   aP ψ ι [ql (.int d0::ds),qs s,qp rooms,qp cells,ql u,ql l,ql m,ql j,qp .non,ql m,ql [],none,none,none,none,none,none,none] []
    = some (.nx,[ql (.int d0::ds),qs s,qp rooms,qp cells,ql u,ql l,ql m,ql j,qp tk,ql f,ql (more tk),Y,Z,none,none,none,none,none],[]):=by
 have S:=jx (gK (fun x K=>(hs x K).1) 19);have N:=jx (gK A 19);have W:=jx (gK hw 19);by_cases c:j≠[]/\d0 % 3=1
 .rw [bc c.1] at S;obtain⟨s1,Q,d⟩:=eA c.1 (d0 / 24);have n:=len_pos c.1;obtain⟨mk,J,k⟩:=nq (a:="ma") (b:="mb") (d0 / 12);obtain⟨⟨sn,V,rfl⟩,r,O,M,o⟩:=hs s1 Q;have o:sn=rA r:=by cases o;rfl
  have U:PyData.strOk mk=true:=by rcases J with rfl | rfl <;> simp
  have H:∃i f,PyData.strOk i=true/\(∀x ∈ f,kj x)/\f.length≤m.length/\((m≠[]/\d0 / 3 % 2=1/\L2.atI m (-1)=some (.str i)/\f=cut m none (some (-1)))\/((m=[]\/¬d0 / 3 % 2=1)/\i=""/\f=m)):=by
   by_cases v:m≠[]/\d0 / 3 % 2=1
   .obtain⟨x,K,G⟩:=atI_last v.1;obtain⟨x,X,rfl⟩:=A x K;exact⟨x,_,X,fun y hy=>A y (mP.1 y hy),mP.2,.inl ⟨v.1,v.2,G,rfl⟩⟩
   .refine⟨_,_,by simp,A,Nat.le_refl _,.inr ⟨?_,rfl,rfl⟩⟩;by_cases z:m=[]
    .exact .inl z
    .exact .inr fun q=>v ⟨z,q⟩
  have F:∃w,PyData.strOk w=true/\((u≠[]/\d0 / 6 % 2=1/\P.str w ∈ u/\L2.atI u (d0 / 200 % (u.length:Int))=some (.str w))\/((u=[]\/¬d0 / 6 % 2=1)/\w="")):=by
   by_cases v:u≠[]/\d0 / 6 % 2=1
   .obtain⟨x,K,G⟩:=eA v.1 (d0 / 200);obtain⟨x,X,rfl⟩:=hw x K;exact⟨x,X,.inl ⟨v.1,v.2,K,G⟩⟩
   .refine⟨_,by simp,.inr ⟨?_,rfl⟩⟩;by_cases z:u=[]
    .exact .inl z
    .exact .inr fun q=>v ⟨z,q⟩
  obtain⟨i,f,hi,hf,I,p1⟩:=H;obtain⟨w,B,E⟩:=F;refine⟨.tup [.str mk,.str sn,.str i,.str w],f,qs i,qs w,.inr ⟨mk,sn,i,w,U,V,hi,B,⟨r,O,M,o⟩,?_,rfl⟩,hf,I,?_⟩
  .rcases E with ⟨_,_,h,_⟩ | ⟨_,h⟩
   .exact .inr h
   .exact .inl h
  rcases p1 with ⟨g,R,T,rfl⟩ | ⟨g,rfl,rfl⟩
  .rw [bc g] at N;rcases E with ⟨e,C,_,D⟩ | ⟨e,rfl⟩
   .rw [bc e] at W;have t:=len_pos e;simp [aP,more,S,c.2,N,R,T,W,C,D,cj,cQ,n,t,d,k]
   .rcases e with e | e
    .subst e;simp [aP,more,S,c.2,N,R,T,W,cj,cQ,n,d,k]
    .cases p:u.isEmpty <;> (rw [p] at W;simp [aP,more,S,c.2,N,R,T,W,e,cj,cQ,n,d,k])
  .rcases g with g | g
   .subst g;rcases E with ⟨e,C,_,D⟩ | ⟨e,rfl⟩
    .rw [bc e] at W;have t:=len_pos e;simp [aP,more,S,c.2,N,W,C,D,cj,cQ,n,t,d,k]
    .rcases e with e | e
     .subst e;simp [aP,more,S,c.2,N,W,cj,cQ,n,d,k]
     .cases p:u.isEmpty <;> (rw [p] at W;simp [aP,more,S,c.2,N,W,e,cj,cQ,n,d,k])
   .cases L:f.isEmpty <;> rw [L] at N <;> (
    rcases E with ⟨e,C,_,D⟩ | ⟨e,rfl⟩
    .rw [bc e] at W;have t:=len_pos e;simp [aP,more,S,c.2,N,g,W,C,D,cj,cQ,n,t,d,k]
    .rcases e with e | e
     .subst e;simp [aP,more,S,c.2,N,g,W,cj,cQ,n,d,k]
     .cases p:u.isEmpty <;> (rw [p] at W;simp [aP,more,S,c.2,N,g,W,e,cj,cQ,n,d,k]))
 .refine⟨.non,m,none,none,.inl rfl,A,Nat.le_refl _,?_⟩;by_cases z:j=[]
  .subst z;simp [aP,more,S]
  .have z2:¬d0 % 3=1:=fun q=>c ⟨z,q⟩;rw [bc z] at S;simp [aP,more,S,z2]
noncomputable def o1 (s:List P):List P:=s.map fun c=>.str (be c)
theorem qy (e:∀c ∈ a,lS c):∀x ∈ o1 a,kj x:=fun x s=>by obtain⟨c,h,rfl⟩:=cn.mp s;obtain⟨x,_,_,_,o,_,_,_,_,rfl⟩:=e c h;exact⟨x,o,rfl⟩
theorem pi (m:∀c ∈ h,lS c) (L:Lc) (j:Nat) (n:j < L.length) (S:aJ) :
  br (ag j) eT (ab am (vv j) (vi 0)) h L S=some (o1 h,S):=by
 have:=bM (g:=ag j) (c:=eT) (e:=ab am (vv j) (vi 0)) (S:=S) (p:=fun _=>true) (f:=fun c=>.str (be c)) (s:=h) (L:=L) (Inv:=fun s=>∃d,s=L.set j d) (fun v r s b=>by
  obtain⟨d,rfl⟩:=b;obtain⟨x,lo,i,a,t,_,_,_,_,rfl⟩:=m v r;have k:((L.set j d).set j (qp (.tup [.str x,.int lo,.int i,.int a])))[j]? = some (qp (.tup [.str x,.int lo,.int i,.int a])):=by rw [cL (by simpa using n)]
  exact⟨_,rfl,⟨_,List.set_set ..⟩,rfl,fun _=>by simp [-List.set_set,k,be]⟩) ⟨L[j],(ip n).symm⟩
 rw [this,List.filter_eq_self.mpr fun _ _=>rfl];rfl
noncomputable def B3 (N:List P) (c:P):Prop:=∃x t,PyData.strOk x=true/\sN N t/\c=.tup [.str x,t]
structure Stp (s:Str) (rooms cells whos rs:List P) (rm when tk:P) (chg sn:List P) (rm2:P):Prop where
 h1:rm ∈ rooms
 h2:rm2 ∈ rooms
 wh:uN (o1 cells) when
 htk:ll s rs whos tk
 cl:chg.length≤3
 ch:∀c ∈ chg,B3 (o1 cells++more tk) c
 sl:sn.length≤3
 hsn:∀c ∈ sn,nA s rs whos (o1 cells++more tk) c
theorem qA (v:P):∀x ∈ more v,kj x:=fun x h=>by
 cases v with
 | non=>cases h
 | _=>exact⟨"it",by simp,by simpa [more] using h⟩
theorem yU (v:P):(more v).length≤1:=by cases v <;> simp [more]
theorem Au (hn:4≤n) (C K B w:Int) (hrm:∀x ∈ r,kj x) (A:r≠[]) (V:∀c ∈ e,lS c) (hcl:e.length≤3) (hw:∀x ∈ u,kj x) (hr:∀c ∈ l,ga c) (J:l.length≤8) :
  ∃rm R o p Q N,Stp s r e u l rm R o p Q N/\pureOf (Ph n "_law_step") [.lst [.int C,.int K,.int B,.int w],.str s,.lst r,.lst e,.lst u,.lst l]=some (.tup [rm,R,o,.lst p,.lst Q,N]):=by
 obtain⟨n,rfl⟩:=fV (n:=n) (by first | assumption | lia);have e1:=pi V [ql [.int C,.int K,.int B,.int w],qs s,ql r,ql e,ql u,ql l,none,none,none,none,none,none,none,none,none,none,none,none,none] 18 (by simp) [];have d:=qy V;have hnl:(o1 e).length=e.length:=by simp [o1]
 generalize U:o1 e=f at e1 d hnl;obtain⟨snd,e2,hsn,_⟩:=wP (s:=s) hr [ql [.int C,.int K,.int B,.int w],qs s,ql r,ql e,ql u,ql l,ql f,none,none,none,none,none,none,none,none,none,none,none,none] 18 1 (by simp) (by lia) rfl [];obtain⟨o,fr,q11,q12,htk,Y,hfl,e3⟩:=step_if (Ph (n+1)) (Ph n) (d0:=C) (ds:=[.int K,.int B,.int w]) (rooms:=.lst r) (cells:=.lst e) d hw hsn;have Z:=yU o;have I:=qA o;generalize hM:more o=O at e3 Z I;have y:∀x ∈ f++O,kj x:=fun x hx=>(dL.mp hx).elim (d x) (I x)
 have j:f.length+O.length≤1000000:=by lia
 have W:e.length≤1000000:=by lia
 let F:Option D->Option D->Lc:=fun q t=>[ql [.int C,.int K,.int B,.int w],qs s,ql r,ql e,ql u,ql l,ql f,ql snd,qp o,ql fr,ql O,q11,q12,some (.ref 0),q,t,none,none]
 let Inv:Nat->Lc->aJ->Prop:=fun i L S=>∃(H:List P) (q t:Option D),H.length≤i/\(∀c ∈ H,B3 (f++O) c)/\L=F q t/\S=[.lst (H.map .p)]
 obtain⟨L',S',e4,p,q,t,E,X,rfl,rfl⟩:=bb (g:=aV [ag 14,ag 15]) (b:=eH (Ph (n+1)) (Ph n)) (Inv:=Inv) (s:=bj 0 fr) (k:=0) (L:=F none none) (S:=[.lst []]) (fun i v L S hv hI=>by
   obtain⟨x,M,rfl⟩:=dO hv;have hi:=ba M;obtain⟨x,ox,rfl⟩:=Y x (bA M);obtain⟨H,q,t,V,ho,rfl,rfl⟩:=hI;have G:H.length≤1000000:=by lia
   obtain⟨a,b,ha,hb,ea,eb⟩:∃a b:Int,(0 < a/\a < 1152921504606846976)/\(0 < b/\b < 1152921504606846976)/\L2.atI [P.int 1,.int 1000,.int 1000000] (i:Int)=some (.int a)/\L2.atI [P.int 2,.int 2000,.int 2000000] (i:Int)=some (.int b):=by
    have:i=0\/i=1\/i=2:=by lia
    rcases this with rfl | rfl | rfl
    .exact⟨1,2,by decide,by decide,by simp,by simp⟩
    .exact⟨1000,2000,by decide,by decide,by simp,by simp⟩
    .exact⟨1000000,2000000,by decide,by decide,by simp,by simp⟩
   by_cases h:K / a % 2=1
   .obtain⟨tr,htr,T⟩:=ur (n:=n+1) (by lia) (K / b % 300) y;refine⟨_,F (qi (i:Int)) (qs x),[.lst ((H++[P.tup [.str x,tr]]).map D.p)],rfl,?_,_,_,_,by simp;lia,dg ho ⟨x,tr,ox,htr,rfl⟩,rfl,rfl⟩;rw [<- cv];simp [eH,F,ea,eb,ha,hb,h,j,T,dk,G]
   .refine⟨_,F (qi (i:Int)) (qs x),[.lst (H.map D.p)],rfl,?_,H,_,_,by lia,ho,rfl,rfl⟩;simp [eH,F,ea,ha,h]) ⟨[],none,none,by simp,fun _ h=>(by cases h),rfl,rfl⟩
 rw [cD] at E;obtain⟨z,hz0,hz1,hz2⟩:∃z:Int,0≤z/\z≤1/\bJ [.bl (decide (3 < (r.length:Int)))]=some (.int z):=by
  by_cases h:3 < (r.length:Int)
  .exact⟨1,by decide,by decide,by simp [h,bJ,iV]⟩
  .exact⟨0,by decide,by decide,by simp [h,bJ,iV]⟩
 obtain⟨Q,hsl,hsd,e5⟩:=yf (n:=n+1) (by lia) B (s:=s) y hw hr J (m:=2+z) (by lia) (by lia);obtain⟨R,hwh,e6⟩:=Bs (n:=n+1) (by lia) (w % 27000) d;obtain⟨r1,hr1,e7⟩:=eA A (w / 27000);obtain⟨r2,hr2,e8⟩:=eA A (w / 216000);have hl:=len_pos A;refine⟨r1,R,o,p,Q,r2,⟨hr1,hr2,U ▸ hwh,htk,by lia,U ▸ hM ▸ X,hsl,U ▸ hM ▸ hsd⟩,?_⟩;rw [qN,aj];simp only [F] at e4;simp [kK,aY,W,sm J,jI,e1,e2,lH,e3,e4,j,cj,cQ,hz2,e5,e6,hl,e7,e8,eB]
noncomputable def zf (s:Str) (r c u l:List P) (v:P):Prop:=∃x a w t h n m,PyData.strOk x=true/\Stp s r c u l a w t h n m/\v=.tup [.str x,a,w,t,.lst h,.lst n,m]
structure Fam (rs:List P) (nm:Str) (crew:Nat) (rooms cells whos steps:List P):Prop where
 hnm:PyData.strOk nm=true
 hcr:1≤crew/\crew≤4
 hro:∀x ∈ rooms,kj x
 r0:rooms≠[]
 hce:wv cells
 cl:cells.length≤3
 hwh:∀x ∈ whos,kj x
 wl:whos.length≤2
 s0:steps≠[]
 sl:steps.length≤8
 hst:∀x ∈ steps,zf nm rooms cells whos rs x
noncomputable def d_ (l:List P) (v:P):Prop:=∃n e r c u s,Fam l n e r c u s/\v=.tup [.str n,.int (e:Int),.lst r,.lst c,.lst u,.lst s]
theorem nu (p:3≤n) (s:List Int) (j:Nat) (o:Nat) (L:Lc) (c:j < L.length) (r:L[0]? = some (qp (cZ s))) (h:0≠j) (l:o+m≤16) (S:aJ) :
  ∃a,br (ag j) eT (af (pureOf (Ph n "_law_name")) (v2 (vv 0) (ab aG (vi (o:Int)) (vv j)))) (Ev.intsFrom 0 m) L S=some (a,S)/\(∀y ∈ a,kj y)/\a.length=(Ev.intsFrom 0 m).length:=by
 refine iJ (Inv:=fun f=>∃d,f=L.set j d) (fun v q f t=>?_) ⟨L[j],(ip c).symm⟩;obtain⟨d,rfl⟩:=t;obtain⟨i,rfl,u⟩:=e_ q;obtain⟨x,w,_,e⟩:=mJ p s (k:=o+i) (by lia);have e:pureOf (Ph n "_law_name") [cZ s,.int ((o:Int)+(i:Int))]=some (.str x):=by rw [<- e];rfl
 have g:((L.set j d).set j (qi (0+(i:Int))))[j]? = some (qi (0+(i:Int))):=by rw [cL (by simpa using c)]
 have b:((L.set j d).set j (qi (0+(i:Int))))[0]? = some (qp (cZ s)):=by rw [bt (Ne.symm h),bt (Ne.symm h)];exact r
 simp only [d5] at g b ⊢;exact⟨_,.str x,rfl,⟨_,List.set_set ..⟩,by simp [-List.set_set,g,b,e],x,w,rfl⟩
theorem D1 (A:2≤n) (s:List Int) (f:Int) (D:0≤f) (E:f < 900) (L:Lc) (P:L.length=14) (F:L[0]? = some (qp (cZ s))) (x:L[12]? = some (qi f)) (S:aJ) :
  ∃l z o H:Int,br (ag 13) eT (af (pureOf (Ph n "_law_mix")) (v2 (af (pureOf (Ph n "_law_cell_at")) (v2 (vv 0) (ab aG (vi 5) (ab a_ (ab aG (vv 12) (vv 13)) (vi 24))))) (ab aG (ab aG (vi 11) (vv 12)) (vv 13)))) (Ev.intsFrom 0 4) L S=some ([.int l,.int z,.int o,.int H],S):=by
 obtain⟨C,e,y,h⟩:=iJ (Q:=fun v=>∃d:Int,v=.int d) (g:=ag 13) (e:=af (pureOf (Ph n "_law_mix")) (v2 (af (pureOf (Ph n "_law_cell_at")) (v2 (vv 0) (ab aG (vi 5) (ab a_ (ab aG (vv 12) (vv 13)) (vi 24))))) (ab aG (ab aG (vi 11) (vv 12)) (vv 13)))) (S:=S) (s:=Ev.intsFrom 0 4) (Inv:=fun m=>∃d,m=L.set 13 d) (L:=L) (fun v B m K=>by
  obtain⟨d,rfl⟩:=K;obtain⟨i,rfl,G⟩:=e_ B;obtain⟨c,r,I,t,q⟩:=hE A s (k:=5+(f+(0+(i:Int))) % 24) (p:=11+f+(0+(i:Int))) (by lia) (by lia) (by lia);have w:((L.set 13 d).set 13 (qi (0+(i:Int))))[13]? = some (qi (0+(i:Int))):=by rw [cL (by simp [P])]
  have u:((L.set 13 d).set 13 (qi (0+(i:Int))))[0]? = some (qp (cZ s)):=by rw [bt (by decide),bt (by decide)];exact F
  have j:((L.set 13 d).set 13 (qi (0+(i:Int))))[12]? = some (qi f):=by rw [bt (by decide),bt (by decide)];exact x
  simp only [d5] at w u j t q ⊢;exact⟨_,.int r,rfl,⟨_,List.set_set ..⟩,by simp [-List.set_set,w,u,j,t,q],r,rfl⟩) ⟨L[13]'(by lia),(ip (by lia)).symm⟩
 rw [bv] at h;match C,h with
 | [a,b,c,d],_=>obtain⟨a,rfl⟩:=y a (by simp);obtain⟨b,rfl⟩:=y b (by simp);obtain⟨c,rfl⟩:=y c (by simp);obtain⟨d,rfl⟩:=y d (by simp);exact⟨a,b,c,d,e⟩
theorem xl (hn:5≤n) (y:List Int) (k:Nat) (hk:k≤3) (hnm:PyData.strOk I=true) (w:Nat) (hcr:1≤w/\w≤4) (wide:Bool) (hr:∀c ∈ l,ga c) (hrl:l.length≤8) :
  ∃v,d_ l v/\(∃tl,v=.tup (.str I::.int (w:Int)::tl))/\pureOf (Ph n "_law_family") [cZ y,.int (k:Int),.str I,.int (w:Int),.bl wide,.lst l]=some v:=by
 obtain⟨n,rfl⟩:=fV (n:=n) (by first | assumption | lia);obtain⟨z,t,hz0,hz1,C,ht1,ez,et⟩:∃z t:Int,0≤z/\z≤1/\0 < t/\t≤8/\bJ [.bl wide]=some (.int z)/\L2.atI [P.int 3,.int 8] z=some (.int t):=by
  cases wide
  .exact⟨0,3,by decide,by decide,by decide,by decide,by simp [bJ,iV],by simp⟩
  .exact⟨1,8,by decide,by decide,by decide,by decide,by simp [bJ,iV],by simp⟩
 obtain⟨e,hcl,hc,ec⟩:=zL (n:=n+1) (by lia) y (f:=(k:Int)) (m:=2+z) (by lia) (by lia) (by lia);obtain⟨X,e91⟩:=rJ (n:=n+1) (by lia) y (k:=2+(k:Int)) (by lia);obtain⟨G,ha9,e92⟩:=qB (n:=n+1) (by lia) X (p:=9) (by lia) (by lia);obtain⟨K,ha8,Z⟩:=qB (n:=n+1) (by lia) X (p:=8) (by lia) (by lia);obtain⟨R,ha7,Y⟩:=qB (n:=n+1) (by lia) X (p:=7) (by lia) (by lia);have h9a:0≤G % t:=dD _ (by lia);have h9b:G % t < t:=d6 _ C;have h7a:0≤R % t:=dD _ (by lia);have h7b:R % t < t:=d6 _ C;have h8a:0≤K % (2+z):=dD _ (by lia);have h8b:K % (2+z) < 2+z:=d6 _ (by lia);let A:List (Option D):=[qp (cZ y),qi (k:Int),qs I,qi (w:Int),qp (.bl wide),ql l]
 obtain⟨r,er,Q,o⟩:=nu (n:=n+1) (by lia) y 11 4 (A++[ql e,qi G,none,none,none,none,none]) (by simp [A]) rfl (by decide) (m:=(1+G % t).toNat) (by lia) [];obtain⟨u,ew,hw,hwl⟩:=nu (n:=n+1) (by lia) y 11 10 (A++[ql e,qi K,ql r,none,none,none,none]) (by simp [A]) rfl (by decide) (m:=(K % (2+z)).toNat) (by lia) [];rw [bv] at o hwl;have O:r≠[]:=fun q=>by rw [q] at o;simp at o;lia
 let F:Option D->Option D->Option D->Lc:=fun J a d=>A++[ql e,J,ql r,ql u,some (.ref 0),a,d]
 let Inv:Nat->Lc->aJ->Prop:=fun i L S=>∃(E:List P) (J a d:Option D),E.length=i/\(∀c ∈ E,zf I r e u l c)/\L=F J a d/\S=[.lst (E.map .p)]
 obtain⟨L',S',e4,stp,J,a,d,B,hst,rfl,rfl⟩:=bb (g:=ag 11) (b:=fh (Ph (n+1)) (Ph n)) (Inv:=Inv) (s:=Ev.intsFrom 0 (1+R % t).toNat) (k:=0) (L:=F (qi K) none none) (S:=[.lst []]) (fun i v L S hv hI=>by
   obtain⟨rfl,hi⟩:=ints_get hv;obtain⟨E,J,a,d,hc1,ho,rfl,rfl⟩:=hI;simp only [d5];have m1:fo 8 (k:Int)=true:=bF (by decide) (by lia);have m2:fo 4 (8 * (k:Int)+(i:Int))=true:=bF (by decide) (by lia);obtain⟨d0,d1,d2,d3,ed⟩:=D1 (n:=n+1) (by lia) y (4 * (8 * (k:Int)+(i:Int))) (by lia) (by lia) (F J (qi (i:Int)) (qi (4 * (8 * (k:Int)+(i:Int))))++[none]) rfl rfl rfl [.lst (E.map .p)];obtain⟨x,hx,_,ex⟩:=mJ (n:=n+1) (by lia) y (k:=8+i) (by lia);have ex:pureOf (Ph (n+1) "_law_name") [cZ y,.int (8+(i:Int))]=some (.str x):=by rw [<- ex];rfl
   obtain⟨T,W,V,j,U,H,hys,es⟩:=Au (n:=n+1) (by lia) d0 d1 d2 d3 (s:=I) Q O hc.1 (by lia) hw hr hrl;have N:E.length≤1000000:=by lia
   have M:aG (.tup [.str x]) (.tup [T,W,V,.lst j,.lst U,H])=some (.tup [.str x,T,W,V,.lst j,.lst U,H]):=rfl;refine⟨_,F (ql [.int d0,.int d1,.int d2,.int d3]) (qi (i:Int)) (qi (4 * (8 * (k:Int)+(i:Int)))),[.lst ((E++[P.tup [.str x,T,W,V,.lst j,.lst U,H]]).map D.p)],rfl,?_,_,_,_,_,by simp;lia,dg ho ⟨x,T,W,V,j,U,H,hx,hys,rfl⟩,rfl,rfl⟩;rw [<- cv];simp only [F,A,pW,fX] at ed;simp [fh,F,A,m1,m2,aY,bv,jI,ed,ex,es,M,dk,N]) ⟨[],_,none,none,rfl,fun _ h=>(by cases h),rfl,rfl⟩
 rw [bv] at B;refine⟨_,⟨I,w,r,e,u,stp,⟨hnm,hcr,Q,O,hc,by lia,hw,by lia,fun q=>by rw [q] at B;simp at B;lia,by lia,hst⟩,rfl⟩,⟨_,rfl⟩,?_⟩;have hz2:0 < 2+z:=by lia
 have q1:(1+G % t).natAbs < 1000000:=by lia
 have q2:(1+R % t).natAbs < 1000000:=by lia
 have q3:(K % (2+z)).natAbs < 1000000:=by lia
 have q4:(1+G % t).toNat≤1000000:=by lia
 have q5:(K % (2+z)).toNat≤1000000:=by lia
 rw [nK,aj];simp only [F,A,pW,fX] at e4 er ew;simp only [show ((4:Nat):Int)=4 from rfl] at er;simp only [show ((10:Nat):Int)=10 from rfl] at ew;simp [jr,ez,et,ec,e91,e92,Z,Y,C,hz2,q1,q2,q3,q4,q5,aY,bv,jI,er,ew,e4]
theorem sD (p:3≤n) (s:List Int) (j:Nat) (L:Lc) (b:j < L.length) (r:L[0]? = some (qp (cZ s))) (h:0≠j) (l:m≤16) (S:aJ) :
  ∃a,br (ag j) eT (af (pureOf (Ph n "_law_name")) (v2 (vv 0) (vv j))) (Ev.intsFrom 0 m) L S=some (a,S)/\(∀y ∈ a,kj y)/\a.length=(Ev.intsFrom 0 m).length:=by
 refine iJ (Inv:=fun e=>∃d,e=L.set j d) (fun v q e t=>?_) ⟨L[j],(ip b).symm⟩;obtain⟨d,rfl⟩:=t;obtain⟨i,rfl,u⟩:=e_ q;obtain⟨x,w,_,c⟩:=mJ p s (k:=i) (by lia);have g:((L.set j d).set j (qi (0+(i:Int))))[j]? = some (qi (0+(i:Int))):=by rw [cL (by simpa using b)]
 have f:((L.set j d).set j (qi (0+(i:Int))))[0]? = some (qp (cZ s)):=by rw [bt (Ne.symm h),bt (Ne.symm h)];exact r
 simp only [d5] at g f ⊢;exact⟨_,.str x,rfl,⟨_,List.set_set ..⟩,by simp [-List.set_set,g,f,c],x,w,rfl⟩
noncomputable def gb:P->Nat
 | .tup (_::.int c::_)=>c.toNat
 | _=>0
noncomputable def zd (v:P):Prop:=∃(k f s:Str),(k="weak"\/k="strong")/\PyData.strOk f=true/\PyData.strOk s=true/\v=.tup [.str k,.str f,.str s]
structure Pln (fams roads wishes:List P):Prop where
 hf:∀f ∈ fams,d_ roads f
 cr:∃c,(∀f ∈ fams,gb f≤c)/\fams.length * c≤4
 f0:1≤fams.length/\fams.length≤4
 hr:∀r ∈ roads,ga r
 ra:∀r ∈ roads,(∃f ∈ fams,be f=rA r)/\∃f ∈ fams,be f=rB r
 rl:roads.length≤8
 hw:∀w ∈ wishes,zd w
 wl:wishes.length≤6
theorem wr (f:h->a) (x:List h) (i:Int):L2.atI (x.map f) i=(L2.atI x i).map f:=by
 unfold L2.atI;rw [bP];cases L2.w_ x.length i with
 | none=>rfl
 | some j=>simp
theorem AQ (hn:6≤n) (U:List Int):∃l H y,Pln l H y/\pureOf (Ph n "_law_plan") [cZ U,.int 3]=some (.tup [.lst l,.lst H,.lst y]):=by
 obtain⟨n,rfl⟩:=fV (n:=n) (by first | assumption | lia);obtain⟨o,e0⟩:=rJ (n:=n+1) (by lia) U (k:=0) (by lia);generalize hwd:decide (o / 64 % 8=1)=wide;obtain⟨z,t,hz0,hz1,Y,ht1,ez,et⟩:∃z t:Int,0≤z/\z≤1/\0 < t/\t≤4/\bJ [.bl wide]=some (.int z)/\L2.atI [P.int 2,.int 4] z=some (.int t):=by
  cases wide
  .exact⟨0,2,by decide,by decide,by decide,by decide,by simp [bJ,iV],by simp⟩
  .exact⟨1,4,by decide,by decide,by decide,by decide,by simp [bJ,iV],by simp⟩
 have hm0:0≤o % t:=dD _ (by lia);have hm1:o % t < t:=d6 _ Y;obtain⟨m,hm⟩:∃m:Nat,1+o % t=(m:Int):=⟨(1+o % t).toNat,by lia⟩;have hm2:1≤m/\m≤4:=by lia
 obtain⟨K,en,hnm,hnl⟩:=sD (n:=n+1) (by lia) U 8 [qp (cZ U),qi 3,qi o,qp (.bl wide),qi (m:Int),none,none,none,none,none,none,none,none,none] (by simp) rfl (by decide) (m:=m) (by lia) [];rw [bv] at hnl;obtain⟨H,⟨hrl,hr⟩,er⟩:=yo (n:=n+1) (by lia) U hnm (by lia) (m:=2+z) (by lia) (by lia);obtain⟨b,hb0,hb1,hbm,eb⟩:∃b:Int,0 < b/\b≤4/\m * b.toNat≤4/\L2.atI [P.int (3+z),.int 2,.int 1,.int 1] ((m:Int)-1)=some (.int b):=by
  have:m=1\/m=2\/m=3\/m=4:=by lia
  rcases this with rfl | rfl | rfl | rfl
  .exact⟨3+z,by lia,by lia,by lia,by simp⟩
  .exact⟨2,by decide,by decide,by decide,by simp⟩
  .exact⟨1,by decide,by decide,by decide,by simp⟩
  .exact⟨1,by decide,by decide,by decide,by simp⟩
 let F:Option D->Option D->Option D->Option D->Option D->Option D->Lc:=fun R V B q11 N O=>[qp (cZ U),qi 3,qi o,qp (.bl wide),qi (m:Int),ql K,ql H,some (.ref 0),R,V,B,q11,N,O]
 let Inv:Nat->Lc->aJ->Prop:=fun i L S=>∃(I:List P) (R V B:Option D),I.length=i/\(∀c ∈ I,d_ H c/\gb c≤b.toNat)/\(∀j x,K[j]? = some x->j < i->∃f ∈ I,x=.str (be f))/\L=F R V B none none none/\S=[.lst (I.map .p)]
 obtain⟨L',S',e1,l,R,V,B,hfl,X,hfn,rfl,rfl⟩:=bb (g:=aV [ag 8,ag 9]) (b:=gh (Ph (n+1)) (Ph n)) (Inv:=Inv) (s:=bj 0 K) (k:=0) (L:=F none none none none none none) (S:=[.lst []]) (fun i v L S hv hI=>by
   obtain⟨x,Z,rfl⟩:=dO hv;have hi:=ba Z;obtain⟨nm,hnm1,rfl⟩:=hnm x (bA Z);obtain⟨I,R,V,B,hc,ho,hon,rfl,rfl⟩:=hI;obtain⟨a,ha,ea⟩:∃a:Int,(0 < a/\a < 1152921504606846976)/\L2.atI [P.int 4,.int 12,.int 16,.int 16] (i:Int)=some (.int a):=by
    have:i=0\/i=1\/i=2\/i=3:=by lia
    rcases this with rfl | rfl | rfl | rfl
    .exact⟨4,by decide,by simp⟩
    .exact⟨12,by decide,by simp⟩
    .exact⟨16,by decide,by simp⟩
    .exact⟨16,by decide,by simp⟩
   have hb2:0≤o / a % b:=dD _ (by lia);have hb3:o / a % b < b:=d6 _ hb0;obtain⟨cr,hcr⟩:∃cr:Nat,1+o / a % b=(cr:Int):=⟨(1+o / a % b).toNat,by lia⟩;obtain⟨v,hv2,⟨tl,hv3⟩,ev⟩:=xl (n:=n+1) (by lia) U i (by lia) hnm1 cr (by lia) wide (fun r h=>(hr r h).1) hrl;have M:I.length≤1000000:=by lia
   refine⟨_,F (qi (i:Int)) (qs nm) (qi (cr:Int)) none none none,[.lst ((I++[v]).map D.p)],rfl,?_,_,_,_,_,by simp;lia,dg ho ⟨hv2,?_⟩,fun j x hj hji=>?_,rfl,rfl⟩
   .rw [<- cv];simp [gh,F,ea,ha,ez,eb,hb0,hcr,ev,dk,M]
   .rw [hv3];simp [gb];lia
   .by_cases hjj:j < i
    .obtain⟨f,W,e⟩:=hon j x hj (by lia);exact⟨f,jb _ W,e⟩
    .have:j=i:=by lia
     subst this;rw [Z] at hj;cases hj;exact⟨v,by simp,by rw [hv3];rfl⟩) ⟨[],none,none,none,rfl,fun _ h=>(by cases h),fun _ _ _ h=>(by lia),rfl,rfl⟩
 have Q:l.length=m:=by rw [hfl,cD,hnl];lia
 have hf0:l≠[]:=fun q=>by rw [q] at Q;simp at Q;lia
 have T:∀x ∈ K,∃f ∈ l,x=.str (be f):=fun x hx=>by obtain⟨j,hj,e⟩:=pP.mp hx;exact hfn j x (by rw [dI hj,e]) (by rw [cD];lia)
 let Inv3:Nat->Lc->aJ->Prop:=fun i L S=>∃(I:List P) (R N O:Option D),I.length=i/\(∀c ∈ I,zd c)/\L=F R V B (some (.ref 1)) N O/\S=[.lst (l.map .p),.lst (I.map .p)]
 obtain⟨w,hw0,hw1,ew⟩:∃w:Int,0≤w/\w≤1/\bJ [.bl (wide && decide (o % 3=1))]=some (.int w):=by
  cases (wide && decide (o % 3=1))
  .exact⟨0,by decide,by decide,rfl⟩
  .exact⟨1,by decide,by decide,rfl⟩
 obtain⟨L',S',e2,y,q8',N,O,hwl,hwi,rfl,rfl⟩:=bb (g:=ag 8) (b:=gg (Ph (n+1)) (Ph n)) (Inv:=Inv3) (s:=Ev.intsFrom 0 (o / 48 % 3+4 * w).toNat) (k:=0) (L:=F R V B (some (.ref 1)) none none) (S:=[.lst (l.map .p),.lst []]) (fun i v L S hv hI=>by
   obtain⟨rfl,hi⟩:=ints_get hv;obtain⟨I,R,N,O,hc,ho,rfl,rfl⟩:=hI;simp only [d5];obtain⟨c,d,hd,e3,e4⟩:=hE (n:=n+1) (by lia) U (k:=4) (p:=20+(i:Int)) (by lia) (by lia) (by lia);obtain⟨f,W,ef⟩:=eA hf0 d;rw [Q] at ef;obtain⟨nm,J,E,C,u,A,G,rfl⟩:=(X f W).1;obtain⟨s,hs,es⟩:=eA G.s0 (d / 8);have hls:=len_pos G.s0;obtain⟨x,rm,wh,tk,chg,sn,rm2,hx,hys,rfl⟩:=G.hst s hs;obtain⟨mk,hmk,emk⟩:=nq (a:="weak") (b:="strong") (d / 4);have M:I.length≤1000000:=by lia
   have ef2:L2.atI (l.map D.p) (d % (m:Int))=qp (.tup [.str nm,.int (J:Int),.lst E,.lst C,.lst u,.lst A]):=by rw [wr,ef];rfl
   have hmp:(0:Int) < (m:Int):=by lia
   have hmp2:0 < m:=by lia
   refine⟨_,F (qi (i:Int)) V B (some (.ref 1)) (qi d) (qp (.tup [.str nm,.int (J:Int),.lst E,.lst C,.lst u,.lst A])),[.lst (l.map .p),.lst ((I++[P.tup [.str mk,.str nm,.str x]]).map D.p)],rfl,?_,_,_,_,_,by simp;lia,dg ho ⟨mk,nm,x,hmk,G.hnm,hx,rfl⟩,rfl,rfl⟩;rw [<- cv];have e5:L2.atI [P.str nm,.int (J:Int),.lst E,.lst C,.lst u,.lst A] 5=some (.lst A):=bn (by decide) rfl;simp [gg,F,e3,e4,hmp,hmp2,ef2,e5,emk,cj,cQ,hls,es,dk,M]) ⟨[],_,none,none,rfl,fun _ h=>(by cases h),rfl,rfl⟩
 rw [bv] at hwl;refine⟨l,H,y,⟨fun f h=>(X f h).1,⟨b.toNat,fun f h=>(X f h).2,by rw [Q];exact hbm⟩,by lia,fun r h=>(hr r h).1,fun r h=>⟨?_,?_⟩,hrl,hwi,by lia⟩,?_⟩
 .obtain⟨f,W,e⟩:=T _ (hr r h).2.1;exact⟨f,W,(P.str.inj e).symm⟩
 .obtain⟨f,W,e⟩:=T _ (hr r h).2.2;exact⟨f,W,(P.str.inj e).symm⟩
 have q1:(o / 48 % 3+4 * w).natAbs < 1000000:=by lia
 have q2:fo 4 w=true:=bF (by decide) (by lia);have q3:m < 1000000:=by lia
 have q4:m≤1000000:=by lia
 have t0:toP 9 (.ref 0) [.lst (l.map .p),.lst (y.map .p)]=some (.lst l,[.fz (.lst l),.lst (y.map .p)]):=eB rfl;have t1:toP 9 (.ref 1) [.fz (.lst l),.lst (y.map .p)]=some (.lst y,[.fz (.lst l),.fz (.lst y)]):=eB rfl;rw [qO,aj];simp only [F] at e1 e2;cases wide
 .simp only [Bool.false_and] at ew;have hzw:z=w:=by rw [ez] at ew;cases ew;rfl
  subst hzw;simp [iK,e0,hwd,ez,et,Y,hm,q1,q2,q3,q4,aY,bv,jI,en,er,e1,ew,e2,t0,t1]
 .simp only [Bool.true_and] at ew;simp [iK,e0,hwd,ez,et,Y,hm,q1,q2,q3,q4,aY,bv,jI,en,er,e1,ew,e2,t0,t1]
end My
namespace My
open PySem L2 Ev
section
variable {t:List P}
noncomputable def hw:Nat->List P->List (Nat×P)
 | _,[]=>[]
 | k,f::r=>List.replicate (gb f) (k,f)++hw (k+1) r
theorem d_.crew (h:d_ t f):gb f≤4:=by obtain⟨n,c,r,a,w,s,x,rfl⟩:=h;simpa [gb] using x.hcr.2
theorem uO:∀{a:List P} (k:Nat),(∀f ∈ a,d_ t f)->(hw k a).length≤4 * a.length
 | [],k,_=>by simp [hw]
 | f::r,k,h=>by have:=uO (a:=r) (k+1) fun x e=>h x (bg _ e);have c:=(h f List.mem_cons_self).crew;simp [hw];lia
theorem lq:∀{a:List P}{k:Nat}{x:Nat×P},x ∈ hw k a->∃j,x.1=k+j/\a[j]? = some x.2
 | [],k,x,h=>by simp [hw] at h
 | f::r,k,x,h=>by
  unfold hw at h;rcases dL.mp h with h | h
  .obtain⟨_,rfl⟩:=pO.mp h;exact⟨0,by simp,by simp⟩
  .obtain⟨j,s,e⟩:=lq h;exact⟨j+1,by lia,by simpa using e⟩
noncomputable def homes (f:List P):List P:=(hw 0 f).map fun x=>.int (x.1:Int)
noncomputable def aB (f:List P):List P:=(hw 0 f).map (·.2)
theorem gB (S:aJ) (x:SO):(S++[x])[S.length]? = some x:=by simp
theorem ie (k:Nat):((k+1:Nat):Int)=(k:Int)+1:=by lia
theorem v9 (z y:Str->GF) (S:aJ) (l:P):∀(m:List P) (k:Nat) (n:List P) (g i:Option D),(∀f ∈ m,d_ t f)->n.length+4 * m.length≤1000 ->
  ∃q v,aZ (aV [ag 2,ag 3]) (eM z y) (bj (k:Int) m) [qp l,some (.ref S.length),g,i] (S++[.lst (n.map .p)])=some (.nx,[qp l,some (.ref S.length),q,v],S++[.lst ((n++(hw k m).map fun x=>P.int (x.1:Int)).map .p)])
 | [],k,n,g,i,_,_=>⟨g,i,by simp [bj,aZ,hw]⟩
 | f::r,k,n,g,i,h,F=>by
  obtain⟨u,c,o,a,w,s,H,rfl⟩:=h f List.mem_cons_self;have A:=H.hcr.2;simp only [bx] at F;obtain⟨q,v,e⟩:=v9 z y S l r (k+1) (n++List.replicate c (P.int (k:Int))) (qi (k:Int)) (qp (.tup [.str u,.int (c:Int),.lst o,.lst a,.lst w,.lst s])) (fun x K=>h x (bg _ K)) (by simp;lia);refine⟨q,v,?_⟩;have j:(hw k (.tup [.str u,.int (c:Int),.lst o,.lst a,.lst w,.lst s]::r)).map (fun x=>P.int (x.1:Int))=List.replicate c (P.int (k:Int))++(hw (k+1) r).map (fun x=>P.int (x.1:Int)):=by simp [hw,gb]
  rw [j,<- List.append_assoc];unfold bj;rw [ie] at e;refine (bC (s:=[qp l,some (.ref S.length),qi (k:Int),qp (.tup [.str u,.int (c:Int),.lst o,.lst a,.lst w,.lst s])]) (L2:=[qp l,some (.ref S.length),qi (k:Int),qp (.tup [.str u,.int (c:Int),.lst o,.lst a,.lst w,.lst s])]) (k:=S++[.lst ((n++List.replicate c (P.int (k:Int))).map .p)]) rfl ?_).trans e;have d:c≤1000000:=by lia
  have p:c < 1000000:=by lia
  have b:n.length+c≤1000000:=by lia
  simp [eM,dk,d,p,b]
theorem B6 (a:2≤n) (h:∀f ∈ s,d_ t f) (l:s.length≤4) (r w:P) (S:aJ):Ph n "families_of" [.p (.tup [.lst s,r,w])] S=some (.ref S.length,S++[.lst ((homes s).map .p)]):=by obtain⟨n,rfl⟩:=fV (n:=n) (by first | assumption | lia);obtain⟨q,k,e⟩:=v9 (Ph (n+1)) (Ph n) S (.tup [.lst s,r,w]) s 0 [] none none h (by simp;lia);rw [mj];simp only [fX,fW] at e;have x:=e;rw [show ((0:Nat):Int)=0 from rfl] at x;simp [cH,iX,x,homes]
theorem qL (x:2≤n) (h:∀f ∈ s,d_ t f) (l:s.length≤4) (r w:P):pureOf (Ph n "families_of") [.tup [.lst s,r,w]]=some (.lst (homes s)):=by unfold pureOf;rw [List.map_cons,fW,B6 x h l r w []];simp
noncomputable def aq (f:List P):LS:=(aB f).map be
theorem gQ (h:∀f ∈ s,d_ t f) (a:f ∈ aB s):d_ t f:=by unfold aB at a;obtain⟨x,n,rfl⟩:=cn.mp a;obtain⟨j,_,e⟩:=lq n;exact h _ (bA e)
noncomputable def bz (N:LS) (s:Str):List Nat:=(List.range N.length).filter fun i=>decide (N[i]? = some s)
theorem wa:∀(xs:List P) (k:Nat),bj (k:Int) xs=(List.range' k xs.length).map fun i=>.tup [.int (i:Int),(xs[i-k]?).getD .non]
 | [],k=>rfl
 | x::r,k=>by
  unfold bj;have h:=wa r (k+1);rw [ie] at h;rw [h,bx,pZ,List.map_cons];simp only [Nat.sub_self];congr 1;refine List.map_congr_left fun i a=>?_
  have:=(List.mem_range'_1.mp a).1;rw [show i-k=(i-(k+1))+1 by lia,List.getElem?_cons_succ]
theorem B7 (xs:List P):bj 0 xs=(List.range xs.length).map fun i=>.tup [.int (i:Int),(xs[i]?).getD .non]:=by have:=wa xs 0;rw [List.range_eq_range'];simpa using this
noncomputable def pr (road:P) (n o:Nat):P:=.tup [road,.int (n:Int),.int (o:Int)]
noncomputable def uB (N:LS) (road:P):List P:=(bz N (rA road)).flatMap fun n=>((bz N (rB road)).filter fun o=>!decide (n=o)).map fun o=>pr road n o
noncomputable def bo (N:LS) (r:List P):List P:=r.flatMap (uB N)
noncomputable def cF (s:List Nat):List P:=s.map fun (i:Nat)=>P.int (i:Int)
theorem dB (N:LS) (s:Str):(bz N s).length≤N.length:=by unfold bz;exact aU (j4 _ _) (by simp)
theorem qh (n:Nat) (road:P) (os:List Nat):((os.filter fun o=>!decide (n=o)).map fun o=>pr road n o).length≤os.length:=by rw [bP];exact j4 _ _
theorem qr (N:LS) (road:P) (os:List Nat) (h:os.length≤16):∀(s:List Nat),(s.flatMap fun n=>(os.filter fun o=>!decide (n=o)).map fun o=>pr road n o).length≤16 * s.length
 | []=>by simp
 | i::s=>by
  have:=qr N road os h s;have:=qh i road os
  simp only [ja,cO,bx];lia
theorem vY:∀{a:List P} (k:Nat),(∀f ∈ a,gb f≤e)->(hw k a).length≤a.length * e
 | [],k,_=>by simp [hw]
 | f::r,k,h=>by have:=vY (a:=r) (k+1) fun x s=>h x (bg _ s);have c:=h f List.mem_cons_self;simp [hw,Nat.add_mul];lia
theorem fB (h:Pln f e s):(aB f).length≤4:=by
 obtain⟨c,x,a⟩:=h.cr;have:=vY 0 x
 unfold aB;simp;lia
theorem j_ (h:Pln f e s):(aq f).length≤4:=by unfold aq;rw [bP];exact fB h
end
section
variable {t:List P}
theorem zo (h:e ∈ homes s):∃p f,e=.int ((p:Nat):Int)/\s[p]? = some f/\f ∈ aB s:=by unfold homes at h;obtain⟨x,a,rfl⟩:=cn.mp h;obtain⟨j,n,k⟩:=lq a;exact⟨x.1,x.2,rfl,by rw [n,dJ];exact k,cn.mpr ⟨x,a,rfl⟩⟩
theorem xf (h:∀p x,s[p]? = some x->g (.int ((p:Nat):Int))=f x):(homes s).map g=(aB s).map f:=by
 unfold homes aB;rw [List.map_map,List.map_map];refine List.map_congr_left fun x n=>?_
 obtain⟨j,e,a⟩:=lq n;exact h x.1 x.2 (by rw [e,dJ];exact a)
theorem dN (xs:List e):xs.filter (fun _=>true)=xs:=List.filter_eq_self.mpr fun _ _=>rfl
theorem jy:(homes f).length=(aB f).length:=by simp [homes,aB]
theorem bw (h:xs[e]? = some s):L2.atI xs ((e:Nat):Int)=some s:=bn (by lia) (by simpa using h)
theorem yx (q:∀f ∈ s,d_ t f) (r w:P) (S:aJ):br (ag 7) eT (ab am (ab am (ab am (vv 0) (vi 0)) (vv 7)) (vi 0)) (homes s) [qp (.tup [.lst s,r,w]),none,none,none,none,none,none,none] S=some ((aq s).map .str,S):=by
 rw [bM (p:=fun _=>true) (f:=fun v=>match v with | .int i=>(match s[i.toNat]? with | some f=>.str (be f) | none=>.non) | _=>.non) (Inv:=fun L=>∃d,L=[qp (.tup [.lst s,r,w]),none,none,none,none,none,none,d]) (fun v g L m=>?_) ⟨none,rfl⟩]
 .rw [dN,xf (f:=fun f=>.str (be f)) fun p x j=>by simp [j]];simp [aq]
 .obtain⟨d,rfl⟩:=m;obtain⟨p,f,rfl,k,h⟩:=zo g;obtain⟨l,c,o,a,b,n,u,rfl⟩:=gQ q h;have e:=bw k;exact⟨[qp (.tup [.lst s,r,w]),none,none,none,none,none,none,qi (p:Int)],rfl,⟨_,rfl⟩,rfl,fun _=>by simp [e,k,be]⟩
noncomputable def oth (N:LS) (s:Str) (n:Nat):List Nat:=(bz N s).filter fun o=>!decide (n=o)
theorem wS (N:LS) (a b:Str) (k:P) (c:Int) (x s:Bool) (l r:D) (o:Nat) (q n:Option D) (S:aJ):br (ag 7) (gX (bV (aH mN (aa 7) (aa 4))) (bV (aH d9 (eV (ab am (vv 1) (vv 7))) (eV (ab am (vv 3) (vi 1)))))) (vv 7) (Ev.intsFrom 0 N.length)
  [some l,ql (N.map .str),some r,qp (.tup [.str a,.str b,k,.int c,.bl x,.bl s]),qi (o:Int),q,n,none] S=some (cF (oth N b o),S):=by
 rw [bM (p:=fun v=>match v with | .int i=>(!decide (o=i.toNat)) && decide (N[i.toNat]? = some b) | _=>false) (f:=id) (Inv:=fun L=>∃d,L=[some l,ql (N.map .str),some r,qp (.tup [.str a,.str b,k,.int c,.bl x,.bl s]),qi (o:Int),q,n,d]) (fun v j L w=>?_) ⟨none,rfl⟩]
 .congr 2;unfold Ev.intsFrom cF oth bz;rw [pG,List.map_id,List.filter_filter];simp only [d5];congr 1
 .obtain⟨d,rfl⟩:=w;obtain⟨i,rfl,u⟩:=e_ j;simp only [d5];have g:N[i]? = some N[i]:=dI u;have e:L2.atI (N.map P.str) (i:Int)=some (.str N[i]):=bw (by rw [List.getElem?_map,g];rfl);refine⟨[some l,ql (N.map .str),some r,qp (.tup [.str a,.str b,k,.int c,.bl x,.bl s]),qi (o:Int),q,n,qi (i:Int)],rfl,⟨_,rfl⟩,?_,fun _=>by simp⟩;by_cases h:o=i
  .simp [h]
  .have m:¬(i:Int)=(o:Int):=by lia
   have t:¬i=o:=fun z=>h z.symm;simp [h,m,t,e,g];first | done | exact decide_eq_decide.mpr Iff.rfl
theorem AL (road:P) (n:Nat) (L:Lc) (l:L.length=8) (g:L[3]? = some (qp road)) (x:L[4]? = some (qi (n:Int))) (os:List Nat) (S:aJ):br (ag 7) eT (aF (v3 (vv 3) (vv 4) (vv 7))) (cF os) L S=some (os.map fun o=>pr road n o,S):=by
 rw [bM (p:=fun _=>true) (f:=fun v=>.tup [road,.int (n:Int),v]) (Inv:=fun h=>∃d,h=L.set 7 d) (fun v b h a=>?_) ⟨L[7],(ip (by lia)).symm⟩]
 .rw [dN];unfold cF pr;rw [List.map_map];rfl
 .obtain⟨d,rfl⟩:=a;have k:((L.set 7 d).set 7 (qp v))[7]? = some (qp v):=by rw [cL (by simp [l])]
  have e:((L.set 7 d).set 7 (qp v))[3]? = some (qp road):=by rw [bt (by decide),bt (by decide)];exact g
  have s:((L.set 7 d).set 7 (qp v))[4]? = some (qi (n:Int)):=by rw [bt (by decide),bt (by decide)];exact x
  exact⟨_,rfl,⟨_,List.set_set ..⟩,rfl,fun _=>by simp [-List.set_set,k,e,s]⟩
noncomputable def lL (N:LS) (road:P) (n:Nat):List P:=if decide (N[n]? = some (rA road))=true then (oth N (rB road) n).map fun o=>pr road n o else []
theorem wV (N:LS) (road:P) (o:Nat) (h:N.length≤16):(lL N road o).length≤16:=by
 unfold lL;split
 .have x:=qh o road (bz N (rB road));have a:=dB N (rB road);unfold oth;lia
 .simp
theorem Jk (G E:Str->GF) (S:aJ) (l:D) (N:LS) (y:N.length≤16) (v:ga road):∀(r:List Nat) (x:List P) (d w k:Option D),(∀i ∈ r,i < N.length)->x.length+16 * r.length≤50000 ->
  ∃q s n,aZ (aV [ag 4,ag 5]) (eG G E) (r.map fun (i:Nat)=>P.tup [.int (i:Int),((N.map P.str)[i]?).getD .non]) [some l,ql (N.map .str),some (.ref S.length),qp road,d,w,k] (S++[.lst (x.map .p)]) =
   some (.nx,[some l,ql (N.map .str),some (.ref S.length),qp road,q,s,n],S++[.lst ((x++r.flatMap (lL N road)).map .p)])
 | [],x,d,w,k,_,_=>⟨d,w,k,by simp [aZ]⟩
 | i::r,x,d,w,k,F,R=>by
  simp only [bx] at R;have t:=wV N road i y;have K:=F i List.mem_cons_self;have z:N[i]? = some N[i]:=dI K;have H:((N.map P.str)[i]?).getD .non=.str N[i]:=by rw [List.getElem?_map,z];rfl
  rw [ja,<- List.append_assoc,List.map_cons,H];by_cases h:N[i]=rA road
  .have g:lL N road i=(oth N (rB road) i).map fun o=>pr road i o:=by unfold lL;rw [z,h];simp
   rw [g] at t ⊢;obtain⟨q,s,n,e⟩:=Jk G E S l N y v r (x++(oth N (rB road) i).map fun o=>pr road i o) (qi (i:Int)) (qs (N[i])) (ql (cF (oth N (rB road) i))) (fun j A=>F j (bg _ A)) (by rw [cO];lia);refine⟨q,s,n,?_⟩;refine (bC (s:=[some l,ql (N.map .str),some (.ref S.length),qp road,qi (i:Int),qs (N[i]),k]) rfl ?_).trans e;have p:x.length+(oth N (rB road) i).length≤1000000:=by rw [bP] at t;lia
   have f:(oth N (rB road) i).length≤1000000:=by lia
   have m:(cF (oth N (rB road) i)).length=(oth N (rB road) i).length:=by simp [cF]
   have T:N.length < 1000000:=by lia
   have C:N.length≤1000000:=by lia
   have u:=AL road i [some l,ql (N.map .str),some (.ref S.length),qp road,qi (i:Int),qs (N[i]),ql (cF (oth N (rB road) i)),none] rfl rfl rfl (oth N (rB road) i) (S++[.lst (x.map .p)]);obtain⟨a,b,M,c,I,J,O,Q,B,_,_,rfl⟩:=v;have L:=wS N a b (.str M) c I J l (.ref S.length) i (qs (N[i])) k (S++[.lst (x.map .p)]);simp only [rA,rB] at h p f m u ⊢;simp [eG,h,aY,cj,cQ,T,C,bv,jI,dk,m,f,p];simp [h] at L u;simp [L,u,m,f,p]
  .have g:lL N road i=[]:=by unfold lL;rw [z];simp [h]
   rw [g,List.append_nil];obtain⟨q,s,n,e⟩:=Jk G E S l N y v r x (qi (i:Int)) (qs (N[i])) k (fun j A=>F j (bg _ A)) (by lia);refine⟨q,s,n,?_⟩;refine (bC (s:=[some l,ql (N.map .str),some (.ref S.length),qp road,qi (i:Int),qs (N[i]),k]) rfl ?_).trans e;obtain⟨a,b,M,c,I,J,O,Q,B,_,_,rfl⟩:=v;simp only [rA] at h;simp [eG,h]
end
section
variable {t:List P}
theorem jk (p:e->Bool) (f:e->List s):∀xs:List e,(xs.filter p).flatMap f=xs.flatMap fun x=>if p x=true then f x else []
 | []=>rfl
 | x::r=>by
  by_cases h:p x=true
  .rw [t8 h,ja,ja,jk p f r,if_pos h]
  .rw [t6 h,ja,jk p f r,if_neg h,fX]
theorem CZ (N:LS) (road:P):(List.range N.length).flatMap (lL N road)=uB N road:=by unfold uB;rw [show bz N (rA road)=(List.range N.length).filter (fun i=>decide (N[i]? = some (rA road))) from rfl,jk];rfl
theorem lb (N:LS) (road:P) (h:N.length≤16):(uB N road).length≤256:=by
 have x:=dB N (rA road);have a:=dB N (rB road);have:=qr N road (bz N (rB road)) (by lia) (bz N (rA road))
 unfold uB;lia
theorem J1 (g u:Str->GF) (S:aJ) (p:D) (N:LS) (d:N.length≤16):∀(o:List P) (a:List P) (t q e n:Option D),(∀r ∈ o,ga r)->a.length+256 * o.length≤10000 ->
  ∃w x s k,aZ (ag 3) (iW g u) o [some p,ql (N.map .str),some (.ref S.length),t,q,e,n] (S++[.lst (a.map .p)]) =
   some (.nx,[some p,ql (N.map .str),some (.ref S.length),w,x,s,k],S++[.lst ((a++bo N o).map .p)])
 | [],a,t,q,e,n,_,_=>⟨t,q,e,n,by simp [aZ,bo]⟩
 | road::o,a,t,q,e,n,l,H=>by simp only [bx] at H;obtain⟨x,s,k,v⟩:=Jk g u S p N d (l road List.mem_cons_self) (List.range N.length) a q e n (fun i z=>by simpa using z) (by simp;lia);have F:=lb N road d;obtain⟨f,b,c,m,y⟩:=J1 g u S p N d o (a++uB N road) (qp road) x s k (fun r h=>l r (bg _ h)) (by rw [cO];lia);refine⟨f,b,c,m,?_⟩;rw [show bo N (road::o)=uB N road++bo N o by simp [bo],<- List.append_assoc];refine (bC (s:=[some p,ql (N.map .str),some (.ref S.length),qp road,q,e,n]) rfl ?_).trans y;rw [CZ] at v;have j:=B7 (N.map P.str);rw [bP] at j;rw [<- j] at v;show cb _ _ _ _ _=_;simp only [bS];rw [show ol (vv 1) [some p,ql (N.map .str),some (.ref S.length),qp road,q,e,n] (S++[.lst (a.map .p)])=some (bj 0 (N.map P.str),S++[.lst (a.map .p)]) by simp];exact v
theorem BP (k:3≤n) (h:Pln y s f) (S:aJ):Ph n "pairs_of" [.p (.tup [.lst y,.lst s,.lst f])] S=some (.ref S.length,S++[.lst ((bo (aq y) s).map .p)]):=by
 obtain⟨n,rfl⟩:=fV (n:=n) (by first | assumption | lia);have:=h.rl
 have x:=qL (n:=n+1) (by lia) h.hf h.f0.2 (.lst s) (.lst f);have a:=yx h.hf (.lst s) (.lst f) S;obtain⟨q,b,c,m,e⟩:=J1 (Ph (n+1)) (Ph n) S (.p (.tup [.lst y,.lst s,.lst f])) (aq y) (aU (j_ h) (by decide)) s [] none none none none h.hr (by simp;lia);have l:(homes y).length≤1000000:=by rw [jy];have:=fB h;lia
 rw [qM];simp only [fX,fW] at e;simp [cH,kJ,x,aY,l,jI,a,e]
theorem AN (x:3≤n) (h:Pln f s e):pureOf (Ph n "pairs_of") [.tup [.lst f,.lst s,.lst e]]=some (.lst (bo (aq f) s)):=by unfold pureOf;rw [List.map_cons,fW,BP x h []];simp
noncomputable def nI:P->P
 | .tup [_,_,_,x]=>x
 | _=>.non
noncomputable def gn:P->P
 | .tup [_,_,_,.lst a,.lst w,_]=>.tup [.int 0,.tup (a.map nI),.tup (List.replicate w.length (.int (-1)))]
 | _=>.non
theorem Bi (n:∀c ∈ a,lS c) (L:Lc) (j:Nat) (e:j < L.length) (S:aJ):br (ag j) eT (ab am (vv j) (vi 3)) a L S=some (a.map nI,S):=by
 rw [bM (p:=fun _=>true) (f:=nI) (Inv:=fun h=>∃d,h=L.set j d) (fun v k h s=>?_) ⟨L[j],(ip e).symm⟩]
 .rw [dN]
 .obtain⟨d,rfl⟩:=s;obtain⟨x,lo,i,t,b,_,_,_,_,rfl⟩:=n v k;have g:((L.set j d).set j (qp (.tup [.str x,.int lo,.int i,.int t])))[j]? = some (qp (.tup [.str x,.int lo,.int i,.int t])):=by
   rw [cL (by simpa using e)]
  exact⟨_,rfl,⟨_,List.set_set ..⟩,rfl,fun _=>by simp [-List.set_set,g,nI]⟩
theorem Ea (a b c d e f:P):L2.atI [a,b,c,d,e,f] 3=some d:=bn (by decide) rfl
theorem H_ (a b c d e f:P):L2.atI [a,b,c,d,e,f] 4=some e:=bn (by decide) rfl
theorem wo (B A:Str->GF) (S:∀f ∈ s,d_ t f) (o i:P):∀(k:List (Nat×P)) (h:List P) (g d u:Option D),(∀x ∈ k,s[x.1]? = some x.2)->h.length+k.length≤1000 ->
  ∃q b v,aZ (ag 2) (iP B A) (k.map fun x=>P.int (x.1:Int)) [qp (.tup [.lst s,o,i]),some (.ref 0),g,d,u] [.lst (h.map .p)] =
   some (.nx,[qp (.tup [.lst s,o,i]),some (.ref 0),q,b,v],[.lst ((h++k.map fun x=>gn x.2).map .p)])
 | [],h,g,d,u,_,_=>⟨g,d,u,by simp [aZ]⟩
 | x::k,h,g,d,u,K,G=>by
  simp only [bx] at G;obtain⟨p,f⟩:=x;have F:s[p]? = some f:=K (p,f) List.mem_cons_self;obtain⟨H,c,r,a,w,n,m,rfl⟩:=S f (bA F);have E:=bw F;obtain⟨q,b,v,e⟩:=wo B A S o i k (h++[gn (.tup [.str H,.int (c:Int),.lst r,.lst a,.lst w,.lst n])]) (qi (p:Int)) (ql a) (ql w) (fun y I=>K y (bg _ I)) (by simp;lia);refine⟨q,b,v,?_⟩;rw [List.map_cons,List.map_cons,show h++gn (.tup [.str H,.int (c:Int),.lst r,.lst a,.lst w,.lst n])::k.map (fun x=>gn x.2)=h++[gn (.tup [.str H,.int (c:Int),.lst r,.lst a,.lst w,.lst n])]++k.map (fun x=>gn x.2) by simp];refine (bC (s:=[qp (.tup [.lst s,o,i]),some (.ref 0),qi (p:Int),d,u]) rfl ?_).trans e;have C:=Bi m.hce.1 [qp (.tup [.lst s,o,i]),some (.ref 0),qi (p:Int),ql a,ql w,none] 5 (by simp) [.lst (h.map .p)];have j:a.length≤1000000:=by have:=m.cl;lia
  have z:w.length≤1000000/\w.length < 1000000:=by have:=m.wl;lia
  have l:h.length≤1000000:=by lia
  rw [<- cv];simp [iP,E,Ea,H_,aY,j,jI,C,bK,cj,cQ,z,dk,l,gn]
theorem zX (w:4≤n) (h:Pln f s y):pureOf (Ph n "begin") [.tup [.lst f,.lst s,.lst y]]=some (.tup [.tup ((aB f).map gn),.tup (List.replicate (bo (aq f) s).length (.tup []))]):=by
 obtain⟨n,rfl⟩:=fV (n:=n) (by first | assumption | lia);have c:=qL (n:=n+1) (by lia) h.hf h.f0.2 (.lst s) (.lst y);have a:=AN (n:=n+1) (by lia) h;have q:=uO 0 h.hf;have l:=h.f0.2;obtain⟨z,o,H,e⟩:=wo (Ph (n+1)) (Ph n) h.hf (.lst s) (.lst y) (hw 0 f) [] none none none (fun x d=>by obtain⟨j,a,m⟩:=lq d;rw [a,dJ];exact m) (by simp;lia);have v:(bo (aq f) s).length≤2048:=by
  have N:(aq f).length≤16:=aU (j_ h) (by decide);have b:∀t:List P,(bo (aq f) t).length≤256 * t.length:=by
   intro t;induction t with
   | nil=>simp [bo]
   | cons r t g=>have:=lb (aq f) r N;rw [show bo (aq f) (r::t)=uB (aq f) r++bo (aq f) t by simp [bo],cO,bx];lia
  have:=b s;have:=h.rl
  lia
 have p:(bo (aq f) s).length≤1000000:=by lia
 have k:(bo (aq f) s).length < 1000000:=by lia
 rw [xn,aj];simp only [fX,fW] at e;rw [show (hw 0 f).map (fun x=>P.int (x.1:Int))=homes f from rfl,show (hw 0 f).map (fun x=>gn x.2)=(aB f).map gn by simp [aB]] at e;have i:∀vs:List P,toP 9 (.ref 0) [.lst (vs.map .p)]=some (.lst vs,[.fz (.lst vs)]):=x9;generalize (aB f).map gn=u at e ⊢;simp [pE,c,a,e,bK,cj,cQ,p,k]
end
noncomputable def jv (S:aJ) (j:Nat) (xs:List P):Prop:=S[j]? = some (.lst (xs.map .p))\/S[j]? = some (.fz (.lst xs))
variable {xs:List P}{m:List P}
theorem yY (h:xs.map D.p=m.map D.p):xs=m:=(List.map_inj_right (f:=D.p) fun _ _ h=>D.p.inj h).mp h
variable {S:aJ}{j:Nat}
theorem jv.lt (h:jv S j xs):j < S.length:=by rcases h with h | h <;> exact (List.getElem?_eq_some_iff.mp h).1
theorem jv.frz (h:jv S j xs):toP 9 (.ref j) S=some (.lst xs,S.set j (.fz (.lst xs))):=by
 rcases h with h | h
 .exact eB h
 .have:S.set j (.fz (.lst xs))=S:=by
   obtain⟨a,x⟩:=List.getElem?_eq_some_iff.mp h;rw [<- x,ip]
  rw [this];simp [toP,h]
variable {L:Lc}
theorem jv.ix (h:jv S j xs){i:Int} (r:s L S=some (.ref j,S)) (x:k L S=some (.int i,S)) (e:L2.atI xs i=some f):t3 s k L S=some (.p f,S):=by
 rw [jn,r,aD,x,aD];rcases h with h | h
 .simp only [h];rw [wr,e];rfl
 .simp only [h];show (L2.atI xs i).map _=_;rw [e];rfl
theorem jv.len (h:jv S j xs):cj (.ref j) S=some xs.length:=by rcases h with h | h <;> simp [cj,h,cQ]
structure Fr (b:Nat) (S S':aJ):Prop where
 len:S.length≤S'.length
 low:∀k o,k < b->S[k]? = some o->S'[k]? = some o\/∃xs,o=.lst (xs.map .p)/\S'[k]? = some (.fz (.lst xs))
 hi:∀k o,b≤k->S[k]? = some o->S'[k]? = some o
theorem Fr.refl (b:Nat) (S:aJ):Fr b S S:=⟨Nat.le_refl _,fun _ _ _ h=>.inl h,fun _ _ _ h=>h⟩
variable {b:Nat}{x:aJ}
theorem Fr.trans (h:Fr b S x) (g:Fr b x f):Fr b S f:=by
 refine⟨aU h.len g.len,fun k o a e=>?_,fun k o a e=>g.hi k o a (h.hi k o a e)⟩;rcases h.low k o a e with s | ⟨xs,rfl,s⟩
 .exact g.low k o a s
 .rcases g.low k _ a s with s | ⟨m,q,_⟩
  .exact .inr ⟨xs,rfl,s⟩
  .cases q
theorem Fr.app (b:Nat) (S T:aJ):Fr b S (S++T):=by
 have y:∀k o,S[k]? = some o->(S++T)[k]? = some o:=fun k o e=>by rw [List.getElem?_append_left (ba e)];exact e
 exact⟨by simp,fun k o _ e=>.inl (y k o e),fun k o _ e=>y k o e⟩
variable {k:Nat}
theorem Fr.set (h:Fr b S x) (s:b≤S.length) (n:S.length≤k) (o:SO):Fr b S (x.set k o):=by
 refine⟨by rw [fq];exact h.len,fun j u a e=>?_,fun j u a e=>?_⟩
 .rw [bt (by lia)];exact h.low j u a e
 .have:=ba e;rw [bt (by lia)];exact h.hi j u a e
theorem Fr.frz (a:j < b) (h:jv S j xs):Fr b S (S.set j (.fz (.lst xs))):=by
 refine⟨by simp,fun k o x e=>?_,fun k o x e=>?_⟩
 .by_cases q:j=k
  .subst q;rw [cL h.lt];rcases h with h | h <;> (rw [h] at e;cases e)
   .exact .inr ⟨xs,rfl,rfl⟩
   .exact .inl rfl
  .rw [bt q];exact .inl e
 .rw [bt (by lia)];exact e
theorem Fr.trunc (h:Fr b S x):Fr b S (trunc S.length x):=by
 unfold Ev.trunc;split
 .refine⟨by rw [io];have:=h.len;lia,fun k o a e=>?_,fun k o a e=>?_⟩
  .rw [iq (ba e)];exact h.low k o a e
  .rw [iq (ba e)];exact h.hi k o a e
 .exact h
theorem jv.fr (h:Fr b S x) (g:jv S j xs):jv x j xs:=by
 by_cases a:j < b
 .rcases g with g | g
  .rcases h.low j _ a g with e | ⟨m,q,e⟩
   .exact .inl e
   .have:xs=m:=yY (SO.lst.inj q);subst this;exact .inr e
  .rcases h.low j _ a g with e | ⟨m,q,e⟩
   .exact .inr e
   .cases q
 .rcases g with g | g
  .exact .inl (h.hi j _ (by lia) g)
  .exact .inr (h.hi j _ (by lia) g)
noncomputable def lJ (S x:aJ) (d:D) (m:List P):Prop:=d=.p (.lst m)\/∃k,S.length≤k/\d=.ref k/\jv x k m
variable {d:D}
theorem lJ.toP (h:lJ S x d m) (f:Fr b S x) (e:b≤S.length):∃a,toP 9 d x=some (.lst m,a)/\Fr b S a:=by
 rcases h with rfl | ⟨k,s,rfl,h⟩
 .exact⟨x,by simp,f⟩
 .exact⟨_,h.frz,f.set e s _⟩
variable {g:GF}{q:n0}{l:List D}
theorem nV (s:q L S=some (l,S)) (k:g l S=some (d,x)) (r:Fr b S x) (n:b≤S.length) (h:lJ S x d m):∃a,cB g q L S=some (.lst m,a)/\Fr b S a:=by obtain⟨c,e,f⟩:=h.toP r n;exact⟨_,by rw [oT,s,aD,k,aD,e,aD],f.trunc⟩
theorem zQ (a:q L S=some (l,S)) (s:g l S=some (.p e,x)) (f:Fr b S x):∃h,cB g q L S=some (e,h)/\Fr b S h:=
 ⟨_,by rw [oT,a,aD,s,aD];rfl,f.trunc⟩
structure BD where
 fams:List P
 roads:List P
 wishes:List P
 ks:List (List bI)
 vs:List D
noncomputable def BD.N (B:BD):LS:=aq B.fams
noncomputable def BD.PR (B:BD):List P:=bo B.N B.roads
noncomputable def fields:LS:=["families","homes","pairs","places","members"]
structure Bat (B:BD) (b i jh jp jl jm:Nat) (mk:List bI) (mv:List D) (S:aJ):Prop where
 ins:S[i]? = some (.ins "Board" fields [.p (.lst B.fams),.ref jh,.ref jp,.ref jl,.ref jm])
 ho:jv S jh (homes B.fams)
 pr:jv S jp B.PR
 pl:S[jl]? = some (.dtt B.ks B.vs)
 me:S[jm]? = some (.dct mk mv)
 mm:∀s ∈ B.N,∃j,j < b/\bR (.inr s) mk mv=some (.ref j)/\jv S j (cF (bz B.N s))
 bi:i < b
 bh:jh < b
 bp:jp < b
 bl:jl < b
 bm:jm < b
 bs:b≤S.length
noncomputable def Bd (B:BD) (b i:Nat) (S:aJ):Prop:=∃p v c r w u,Bat B b i p v c r w u S
theorem Bat.fr {B:BD}{b i p v c r:Nat}{w:List bI}{u:List D}{S x:aJ} (h:Bat B b i p v c r w u S) (f:Fr b S x):Bat B b i p v c r w u x where
 ins:=by rcases f.low i _ h.bi h.ins with e | ⟨_,q,_⟩;exact e;cases q
 ho:=h.ho.fr f
 pr:=h.pr.fr f
 pl:=by rcases f.low c _ h.bl h.pl with e | ⟨_,q,_⟩;exact e;cases q
 me:=by rcases f.low r _ h.bm h.me with e | ⟨_,q,_⟩;exact e;cases q
 mm:=fun s m=>by obtain⟨j,a,n,k⟩:=h.mm s m;exact⟨j,a,n,k.fr f⟩
 bi:=h.bi
 bh:=h.bh
 bp:=h.bp
 bl:=h.bl
 bm:=h.bm
 bs:=aU h.bs f.len
theorem Bd.fr {B:BD}{b i:Nat}{S x:aJ} (h:Bd B b i S) (f:Fr b S x):Bd B b i x:=by obtain⟨p,v,c,r,w,u,h⟩:=h;exact⟨p,v,c,r,w,u,h.fr f⟩
theorem Bd.le {B:BD}{b i:Nat}{S:aJ} (h:Bd B b i S):b≤S.length:=by obtain⟨p,v,c,r,w,u,h⟩:=h;exact h.bs
section
variable {B:BD}{b i p v c r:Nat}{w:List bI}{u:List D}{S:aJ}{L:Lc}{o:EE}
theorem Bat.fld (h:Bat B b i p v c r w u S) (ho:o L S=some (.ref i,S)) (a:aT Att "Board" f=true) (x:gM f fields [.p (.lst B.fams),.ref p,.ref v,.ref c,.ref r]=some d):dP (aT Att) o f L S=some (d,S):=by rw [Bo,ho,aD];simp only [h.ins];rw [if_pos a,x];rfl
end
theorem jF:aT Att "Board" "families"=true/\aT Att "Board" "homes"=true/\aT Att "Board" "pairs"=true/\aT Att "Board" "places"=true/\aT Att "Board" "members"=true:=by decide +kernel
theorem A7 {a b c d e:D}:gM "families" fields [a,b,c,d,e]=some a/\gM "homes" fields [a,b,c,d,e]=some b/\gM "pairs" fields [a,b,c,d,e]=some c/\gM "places" fields [a,b,c,d,e]=some d/\gM "members" fields [a,b,c,d,e]=some e:=by
 have h:¬("families":Str)="homes":=by decide +kernel
 have x:¬("families":Str)="pairs":=by decide +kernel
 have s:¬("families":Str)="places":=by decide +kernel
 have k:¬("families":Str)="members":=by decide +kernel
 have f:¬("homes":Str)="pairs":=by decide +kernel
 have m:¬("homes":Str)="places":=by decide +kernel
 have r:¬("homes":Str)="members":=by decide +kernel
 have t:¬("pairs":Str)="places":=by decide +kernel
 have p:¬("pairs":Str)="members":=by decide +kernel
 have n:¬("places":Str)="members":=by decide +kernel
 simp [fields,gM,h,x,s,k,f,m,r,t,p,n]
section
variable {B:BD}{b i p v c r:Nat}{w:List bI}{u:List D}{S:aJ} (h:Bat B b i p v c r w u S) {L:Lc}{o:EE} (ho:o L S=some (.ref i,S))
include h ho
theorem Bat.families:dP (aT Att) o "families" L S=some (.p (.lst B.fams),S):=h.fld ho jF.1 A7.1
theorem Bat.homes:dP (aT Att) o "homes" L S=some (.ref p,S):=h.fld ho jF.2.1 A7.2.1
theorem Bat.pairs:dP (aT Att) o "pairs" L S=some (.ref v,S):=h.fld ho jF.2.2.1 A7.2.2.1
theorem Bat.places:dP (aT Att) o "places" L S=some (.ref c,S):=h.fld ho jF.2.2.2.1 A7.2.2.2.1
theorem Bat.members:dP (aT Att) o "members" L S=some (.ref r,S):=h.fld ho jF.2.2.2.2 A7.2.2.2.2
theorem Bat.meth (m:M "Board" e=some g) (n:fields.contains e=false) (a:q L S=some (l,S)):dG M o e q L S=g (.ref i::l) S:=by rw [ib,ho,aD];simp only [h.ins,m,n,a,aD];rfl
end
@[simp] theorem HA:¬("name":Str)="number"/\¬("plus":Str)="number"/\¬("plus":Str)="name"/\¬("minus":Str)="number"/\¬("minus":Str)="name"/\¬("minus":Str)="plus"/\¬("times":Str)="number"/\¬("times":Str)="name"/\¬("times":Str)="plus"/\¬("times":Str)="minus" /\
  ¬("not":Str)="true"/\¬("and":Str)="true"/\¬("and":Str)="not"/\¬("or":Str)="true"/\¬("or":Str)="not"/\¬("or":Str)="and"/\¬("is":Str)="true"/\¬("is":Str)="not"/\¬("is":Str)="and"/\¬("is":Str)="or" /\
  ¬("double":Str)="lose"/\¬("all":Str)="who"/\¬("any":Str)="who"/\¬("any":Str)="all"/\¬("weak":Str)="strong"/\¬("strong":Str)="weak"/\¬("heap":Str)="row"/\¬("row":Str)="heap":=by decide +kernel
theorem gD (h:xs.length+m.length≤1000000):aG (.tup xs) (.tup m)=some (.tup (xs++m)):=by
 cases xs with
 | nil=>rfl
 | cons x r=>show (if (!(x::r).isEmpty && gc ((x::r).length+m.length))=true then some (P.tup ((x::r)++m)) else none)=_;rw [if_pos (by rw [Bool.and_eq_true,kH];exact⟨rfl,h⟩)]
theorem rH (k:Nat):cut xs none (some (k:Int))=xs.take k:=by
 unfold cut;rw [HT.si,HT.vD,mF,Nat.sub_zero];by_cases h:k≤xs.length
 .rw [Nat.min_eq_left h]
 .rw [Nat.min_eq_right (by lia),pJ,List.take_of_length_le (by lia)]
theorem tG (k:Nat):cut xs (some (k:Int)) none=xs.drop k:=by
 unfold cut;rw [HT.si,HT.vD];by_cases h:k≤xs.length
 .rw [Nat.min_eq_left h,List.take_of_length_le (by simp)]
 .rw [Nat.min_eq_right (by lia),pX,List.drop_of_length_le (by lia)];simp
theorem pf (k:Nat):cut xs (some ((k:Int)+1)) none=xs.drop (k+1):=tG (k+1)
theorem Br (k:Nat):cut xs none (some ((k:Int)+1))=xs.take (k+1):=rH (k+1)
variable {n:Nat}
theorem ni (a:2≤n) (x:k < xs.length) (l:xs.length≤900000) (v:P):pureOf (Ph n "replaced") [.tup xs,.int (k:Int),v]=some (.tup (xs.set k v)):=by obtain⟨n,rfl⟩:=fV (n:=n) (by first | assumption | lia);have e:=gD (xs:=xs.take k) (m:=[v]) (by simp;lia);have h:=gD (xs:=xs.take k++[v]) (m:=xs.drop (k+1)) (by simp;lia);rw [gw,aj];simp [fg,rH,pf,e,-List.append_assoc];rw [h];simp [List.set_eq_take_append_cons_drop,x]
theorem BI (x:2≤n) (h:xs.length≤900000):pureOf (Ph n "without") [.tup xs,.int (k:Int)]=some (.tup (xs.eraseIdx k)):=by obtain⟨n,rfl⟩:=fV (n:=n) (by first | assumption | lia);have e:=gD (xs:=xs.take k) (m:=xs.drop (k+1)) (by simp;lia);rw [g8,aj];simp [fR,rH,pf,e,List.eraseIdx_eq_take_drop_succ]
noncomputable def lR (l:P):Prop:=∃m i,PyData.strOk m=true/\i.natAbs≤999/\l=.tup [.str m,.int i]
theorem lR.ok (h:lR e):dq 1 e=true:=by obtain⟨m,i,x,_,rfl⟩:=h;simp [x]
noncomputable def jG (s:List P):Prop:=s.length≤3/\∀l ∈ s,lR l
theorem GL {n:Nat} (b:3≤n) {w:Str} (hw:w="lose"\/w="double") {xs:List P}{k:Nat} (x:jG xs) (a:w="double"->xs.length≤2) (f:k < xs.length):∃m,jG m/\pureOf (Ph n "flawed") [.str w,.tup xs,.int (k:Int)]=some (.tup m):=by
 obtain⟨n,rfl⟩:=fV (n:=n) (by first | assumption | lia);have:=x.1
 rcases hw with rfl | rfl
 .refine⟨xs.eraseIdx k,⟨aU (List.length_eraseIdx_le ..) this,fun l h=>x.2 l (List.mem_of_mem_eraseIdx h)⟩,?_⟩;have e:=BI (n:=n+1) (by lia) (xs:=xs) (k:=k) (by lia);rw [nL,aj];simp [kg,e]
 .have s:=a rfl;refine⟨xs.take (k+1)++xs.drop k,⟨by simp;lia,fun l h=>?_⟩,?_⟩
  .rcases dL.mp h with h | h
   .exact x.2 l (pQ h)
   .exact x.2 l (qa h)
  .have e:=gD (xs:=xs.take (k+1)) (m:=xs.drop k) (by simp;lia);rw [nL,aj];simp [kg,Br,tG,e]
theorem Gz {n:Nat} (g:2≤n) {w:Str} (hw:w="lose"\/w="double") {r:P} (q:ga r) (xs:List P):∃b,(w="double"->b=true->xs.length≤2)/\pureOf (Ph n "has_flaw") [r,.str w,.tup xs]=some (.bl b):=by
 obtain⟨n,rfl⟩:=fV (n:=n) (by first | assumption | lia);obtain⟨a,b,k,c,x,d,v,u,p,m,t,rfl⟩:=q;have e:L2.atI [P.str a,.str b,.str k,.int c,.bl x,.bl d] 3=some (.int c):=bn (by decide) rfl;have s:L2.atI [P.str a,.str b,.str k,.int c,.bl x,.bl d] 4=some (.bl x):=bn (by decide) rfl;have f:L2.atI [P.str a,.str b,.str k,.int c,.bl x,.bl d] 5=some (.bl d):=bn (by decide) rfl;rcases hw with rfl | rfl
 .refine⟨x,fun h=>?_,?_⟩
  .have:¬("lose":Str)="double":=by decide +kernel
   exact absurd h this
  .rw [kF,aj];simp [iO,s]
 .refine⟨d && decide ((xs.length:Int) < c),fun _ h=>?_,?_⟩
  .have:=(Bool.and_eq_true _ _ ▸ h).2;have:=of_decide_eq_true this
   lia
  .rw [kF,aj];cases d <;> simp [iO,e,f,cj,cQ]
theorem nD (h:∀y ∈ xs,dq 19 y=true) (x:s ∈ xs):∃i:Nat,i < xs.length/\j9 xs s=some i:=by
 unfold j9;have a:(xs.all (dq 19) && dq 19 s)=true:=by rw [Bool.and_eq_true];exact⟨bQ.mpr h,h s x⟩
 rw [if_pos a];have m:pd s ∈ kQ xs:=by
  clear a h;induction xs with
  | nil=>cases x
  | cons y r n=>
   rcases az.mp x with rfl | x
   .exact List.mem_cons_self
   .exact bg _ (n x)
 have e:PyData.eqv (pd s) (pd s)=true:=qc _ (fL 20 s (gH (h s x) (by lia))).1;cases q:(kQ xs).findIdx? fun z=>PyData.eqv z (pd s) with
 | none=>have:=List.findIdx?_eq_none_iff.mp q (pd s) m;rw [e] at this;cases this
 | some i=>
  refine⟨i,?_,rfl⟩;have:=(ve.mp q).1
  rwa [qv] at this
noncomputable def Be (n:Nat) (y:P):Prop:=∃i:Nat,i < n/\y=.int (i:Int)
theorem BK (K:2≤n) (k:Str) (t:jG xs):∃m:List P,m.length≤xs.length/\(∀y ∈ m,Be xs.length y)/\pureOf (Ph n "unlike_spots") [.str k,.tup xs]=some (.lst m):=by
 obtain⟨n,rfl⟩:=fV (n:=n) (by first | assumption | lia);have H:=t.1;have r:xs.length < 1000000:=by lia
 have q:xs.length≤1000000:=by lia
 have a:∀y ∈ intsFrom 0 xs.length,Be xs.length y:=fun y s=>by obtain⟨i,rfl,a⟩:=e_ s;exact⟨i,a,by simp⟩
 by_cases b:k="row"
 .refine⟨intsFrom 0 xs.length,by rw [bv];exact Nat.le_refl _,a,?_⟩;rw [c_,aj];simp [ck,b,cj,cQ,r]
 .obtain⟨m,e,u,f⟩:=jB (g:=ag 3) (c:=bV (aH d9 (eV (n2 (vv 1) (ab am (vv 1) (vv 3)))) (aa 3))) (e:=vv 3) (Q:=Be xs.length) (S:=[]) (s:=intsFrom 0 xs.length) (L:=[qs k,qp (.tup xs),ql (intsFrom 0 xs.length),none]) (Inv:=fun L=>∃d,L=[qs k,qp (.tup xs),ql (intsFrom 0 xs.length),d]) (fun v o L l=>by
   obtain⟨d,rfl⟩:=l;obtain⟨i,h,rfl⟩:=a v o;have z:xs[i]? = some xs[i]:=dI h;have p:=bw z;obtain⟨j,F,w⟩:=nD (xs:=xs) (s:=xs[i]) (fun y s=>gH (t.2 y s).ok (by lia)) (fw _);exact⟨[qs k,qp (.tup xs),ql (intsFrom 0 xs.length),qi (i:Int)],decide ((j:Int)=(i:Int)),rfl,⟨_,rfl⟩,by simp [p,w],fun _=>⟨.int (i:Int),by simp,i,h,rfl⟩⟩) ⟨none,rfl⟩
  rw [bv] at f;refine⟨m,f,u,?_⟩;rw [c_,aj];simp [ck,b,cj,cQ,r,q,aY,bv,jI,e]
noncomputable def kO (N:List P) (ks:List bI) (vs:List P):Prop:=∀x:Str,P.str x ∈ N->∃i:Int,i.natAbs≤999/\bR (.inr x) ks vs=some (.int i)
section
variable {N:List P}{ks:List bI}{vs:List P}
theorem oQ (h:2≤n) (k:Int):pureOf (Ph n "value_of") [lg k,.dct ks vs]=some (.int k):=by obtain⟨n,rfl⟩:=fV (n:=n) (by first | assumption | lia);rw [cI,aj];simp [bW]
theorem oR (x:2≤n){i:Int} (h:bR (.inr e) ks vs=some (.int i)):pureOf (Ph n "value_of") [mf (.str e),.dct ks vs]=some (.int i):=by obtain⟨n,rfl⟩:=fV (n:=n) (by first | assumption | lia);rw [cI,aj];simp [bW,h]
theorem Cr {n:Nat} (e:3≤n) {a b:P}{i j:Int} (h:pureOf (Ph (n-1) "value_of") [a,.dct ks vs]=some (.int i)) (x:pureOf (Ph (n-1) "value_of") [b,.dct ks vs]=some (.int j)):pureOf (Ph n "value_of") [.tup [.str "plus",a,b],.dct ks vs]=some (.int (i+j)):=by obtain⟨n,rfl⟩:=fV (n:=n) (by first | assumption | lia);rw [show n+2-1=n+1 by lia] at h x;rw [cI,aj];simp [bW,h,x]
theorem vm {n:Nat} (e:3≤n) {a b:P}{i j:Int} (h:pureOf (Ph (n-1) "value_of") [a,.dct ks vs]=some (.int i)) (x:pureOf (Ph (n-1) "value_of") [b,.dct ks vs]=some (.int j)):pureOf (Ph n "value_of") [.tup [.str "minus",a,b],.dct ks vs]=some (.int (i-j)):=by obtain⟨n,rfl⟩:=fV (n:=n) (by first | assumption | lia);rw [show n+2-1=n+1 by lia] at h x;rw [cI,aj];simp [bW,h,x]
theorem Ak {n:Nat} (e:3≤n) {a b:P}{i j:Int} (m:fo i j=true) (h:pureOf (Ph (n-1) "value_of") [a,.dct ks vs]=some (.int i)) (x:pureOf (Ph (n-1) "value_of") [b,.dct ks vs]=some (.int j)):pureOf (Ph n "value_of") [.tup [.str "times",a,b],.dct ks vs]=some (.int (i * j)):=by obtain⟨n,rfl⟩:=fV (n:=n) (by first | assumption | lia);rw [show n+2-1=n+1 by lia] at h x;rw [cI,aj];simp [bW,h,x,m]
theorem m5 (s:∀x ∈ N,kj x) (f:kO N ks vs) {t:P} (h:sN N t) {n:Nat} (p:4≤n):∃r:Int,pureOf (Ph n "value_of") [t,.dct ks vs]=some (.int r):=by
 rcases h with ⟨k,rfl⟩ | ⟨y,a,h⟩
 .exact⟨k,oQ (by lia) k⟩
 obtain⟨x,_,rfl⟩:=s y a;obtain⟨i,m,e⟩:=f x a;rcases h with rfl | ⟨k,rfl⟩ | ⟨k,j,b,c,rfl⟩ | rfl
 .exact⟨i,oR (by lia) e⟩
 .exact⟨_,Cr (by lia) (oR (by lia) e) (oQ (by lia) k)⟩
 .exact⟨_,vm (by lia) (Ak (by lia) (bF (i:=i) (j:=k) (by lia) (by lia)) (oR (by lia) e) (oQ (by lia) k)) (oQ (by lia) j)⟩
 .exact⟨_,vm (by lia) (oQ (by lia) 1) (oR (by lia) e)⟩
theorem D6 (k:2≤n) (w:Str) (i j:Int):∃b,pureOf (Ph n "compared") [.str w,.int i,.int j]=some (.bl b):=by
 obtain⟨n,rfl⟩:=fV (n:=n) (by first | assumption | lia);rw [gx,aj];by_cases h:w="="
 .simp [bY,h]
 by_cases x:w="!="
 .refine⟨!decide (i=j),?_⟩;simp [bY,h,eq_true x]
 by_cases a:w="<"
 .simp [bY,h,x,eq_true a]
 by_cases e:w="<="
 .simp [bY,h,x,a,eq_true e]
 by_cases s:w=">"
 .simp [bY,h,x,a,e,eq_true s]
 simp [bY,h,x,a,e,s]
theorem zr (h:2≤n):pureOf (Ph n "holds") [.tup [.str "true"],.dct ks vs]=some (.bl true):=by obtain⟨n,rfl⟩:=fV (n:=n) (by first | assumption | lia);rw [eR,aj];simp [dC]
theorem GD {n:Nat} (s:6≤n) (w:Str) {a b:P}{i j:Int} (h:pureOf (Ph (n-1) "value_of") [a,.dct ks vs]=some (.int i)) (x:pureOf (Ph (n-1) "value_of") [b,.dct ks vs]=some (.int j)):∃r,pureOf (Ph n "holds") [.tup [.str "is",.str w,a,b],.dct ks vs]=some (.bl r):=by obtain⟨n,rfl⟩:=fV (n:=n) (by first | assumption | lia);rw [show n+2-1=n+1 by lia] at h x;obtain⟨r,e⟩:=D6 (n:=n+1) (by lia) w i j;refine⟨r,?_⟩;rw [eR,aj];simp [dC,h,x,e]
theorem GB (x:3≤n) (h:pureOf (Ph (n-1) "holds") [e,.dct ks vs]=some (.bl s)):pureOf (Ph n "holds") [.tup [.str "not",e],.dct ks vs]=some (.bl !s):=by obtain⟨n,rfl⟩:=fV (n:=n) (by first | assumption | lia);rw [show n+2-1=n+1 by lia] at h;rw [eR,aj];simp [dC,h]
theorem GG {n:Nat} (e:3≤n) {a b:P}{r s:Bool} (h:pureOf (Ph (n-1) "holds") [a,.dct ks vs]=some (.bl r)) (x:pureOf (Ph (n-1) "holds") [b,.dct ks vs]=some (.bl s)):pureOf (Ph n "holds") [.tup [.str "and",a,b],.dct ks vs]=some (.bl (r && s)):=by obtain⟨n,rfl⟩:=fV (n:=n) (by first | assumption | lia);rw [show n+2-1=n+1 by lia] at h x;rw [eR,aj];cases r <;> simp [dC,h,x]
theorem JB {n:Nat} (e:3≤n) {a b:P}{r s:Bool} (h:pureOf (Ph (n-1) "holds") [a,.dct ks vs]=some (.bl r)) (x:pureOf (Ph (n-1) "holds") [b,.dct ks vs]=some (.bl s)):pureOf (Ph n "holds") [.tup [.str "or",a,b],.dct ks vs]=some (.bl (r || s)):=by obtain⟨n,rfl⟩:=fV (n:=n) (by first | assumption | lia);rw [show n+2-1=n+1 by lia] at h x;rw [eR,aj];cases r <;> simp [dC,h,x]
theorem zp (k:∀x ∈ N,kj x) (f:kO N ks vs) {t:P} (h:uN N t) {n:Nat} (b:9≤n):∃r,pureOf (Ph n "holds") [t,.dct ks vs]=some (.bl r):=by
 have l:∀{t:P},kD N t->∀{n:Nat},6≤n->∃r,pureOf (Ph n "holds") [t,.dct ks vs]=some (.bl r):=fun {t} h {n} b=>by obtain⟨w,y,s,c,d,_,rfl⟩:=h;obtain⟨x,_,rfl⟩:=k y c;obtain⟨i,_,a⟩:=f x c;obtain⟨j,v⟩:=m5 k f d (n:=n-1) (by lia);exact GD b w (oR (by lia) a) v
 rcases h with rfl | h | ⟨p,h,rfl⟩ | ⟨p,z,h,m,rfl⟩
 .exact⟨_,zr (by lia)⟩
 .exact l h (by lia)
 .obtain⟨r,e⟩:=l h (n:=n-1) (by lia);exact⟨_,GB (by lia) e⟩
 .obtain⟨r,e⟩:=l h (n:=n-1) (by lia);obtain⟨x,_,rfl⟩:=k z m;obtain⟨i,_,a⟩:=f x m;obtain⟨s,q⟩:=GD (n:=n-1-1) (ks:=ks) (vs:=vs) (by lia) "=" (oQ (by lia) 1) (oR (by lia) a);exact⟨_,JB (by lia) e (GG (by lia) (zr (by lia)) q)⟩
end
noncomputable def cP (a:List P):List bI:=a.map fun c=>.inr (be c)
noncomputable def CellsOk (a s:List P):Prop:=s.length=a.length/\∀c ∈ s,∃i:Int,i.natAbs≤999/\c=.int i
variable {a:List P}
theorem ji (h:wv a):(cP a).Nodup:=by
 unfold cP;refine List.pairwise_iff_getElem.mpr fun i j e s k q=>?_
 rw [bP] at e s;rw [List.getElem_map,List.getElem_map] at q;have x:=h.2 i _ (dI e);have n:=h.2 j _ (dI s);rw [i4 q,n] at x;simp at x;lia
theorem uI (a:List P):cw (o1 a)=some (cP a):=by
 unfold o1 cP;induction a with
 | nil=>rfl
 | cons c r i=>simp [cw,cg,i]
theorem qE:∀{a k:List P},CellsOk a k->kO (o1 a) (cP a) k
 | [],_,_=>fun x h=>by cases h
 | c::r,[],h=>by have:=h.1;simp at this
 | c::r,d::s,h=>fun x p=>by
  obtain⟨i,m,rfl⟩:=h.2 d List.mem_cons_self;show ∃i:Int,_/\(if (Sum.inr (be c):bI)=.inr x then some _ else bR (.inr x) (cP r) s)=_;by_cases e:be c=x
  .exact⟨i,m,by rw [if_pos (by rw [e])]⟩
  .have n:P.str x ∈ o1 r:=by
    rcases az.mp p with q | q
    .exact absurd (P.str.inj q).symm e
    .exact q
   obtain⟨j,t,f⟩:=qE (a:=r) (k:=s) ⟨by have:=h.1;simpa using this,fun c b=>h.2 c (bg _ b)⟩ x n;exact⟨j,t,by rw [if_neg fun q=>e (i4 q)];exact f⟩
theorem vj (v:2≤n) (h:Fam t H f s a y e) (m:CellsOk a z) (S:aJ) :
  Ph n "values_of" [.p (.tup [.str H,.int (f:Int),.lst s,.lst a,.lst y,.lst e]),.p (.tup z)] S=some (.ref S.length,S++[.dct (cP a) (z.map .p)]):=by
 obtain⟨n,rfl⟩:=fV (n:=n) (by first | assumption | lia);have r:=h.cl;have q:a.length≤1000000:=by lia
 have x:(o1 a).length≤1000000:=by simp [o1];lia
 have c:=pi h.hce.1 [qp (.tup [.str H,.int (f:Int),.lst s,.lst a,.lst y,.lst e]),qp (.tup z),none] 2 (by simp) S;have p:=ji h.hce;have k:(cP a).length=z.length:=by rw [m.1];simp [cP]
 have l:(cP a).length≤z.length:=Nat.le_of_eq k;have b:z.take (cP a).length=z:=by rw [k,pJ]
 rw [fN];simp [cH,ei,Ea,aY,q,jI,c,uI,p,x,l,b,List.map_take];first | done | (rw [<- List.map_take,b])
theorem wB (k:2≤n) (x:Fam t H y s a z e) (h:CellsOk a f) :
  pureOf (Ph n "values_of") [.tup [.str H,.int (y:Int),.lst s,.lst a,.lst z,.lst e],.tup f]=some (.dct (cP a) f):=by
 unfold pureOf;rw [List.map_cons,List.map_cons,fW,vj k x h []];have:qD (toP 8) (f.map .p) [SO.dct (cP a) (f.map .p)]=some (f,[SO.dct (cP a) (f.map .p)]):=kA ..;simp [toP,this]
end My
namespace My
open PySem L2 Ev
variable {L:Lc}{S:aJ}
theorem al (h:a L S=some (.nx,e,b)):ae a g L S=g e b:=by rw [qq,h]
theorem uw (h:a L S=some (.rt d,e,b)):ae a g L S=some (.rt d,e,b):=by rw [qq,h]
noncomputable def Fd (a b:Bool):Nat->Nat->Option Bool
 | 0,0=>some false
 | 0,1=>some a
 | 1,0=>some b
 | 1,1=>some false
 | _,_=>none
noncomputable def Fc (a b c d e f:Bool):Nat->Nat->Option Bool
 | 0,0=>some false
 | 0,1=>some a
 | 0,2=>some b
 | 1,0=>some c
 | 1,1=>some false
 | 1,2=>some d
 | 2,0=>some e
 | 2,1=>some f
 | 2,2=>some false
 | _,_=>none
noncomputable def sS (n:Nat) (o:Option (Array Nat)):Bool:=match o with
 | some p=>decide (p.size=n) && p.all fun i=>decide (i < n)
 | none=>false
theorem Fu:∀a b,sS 2 (Bl (Fd a b) (PySem.W.kas_sort 2))=true:=by decide +kernel
theorem Ft:∀a b c d e f,sS 3 (Bl (Fc a b c d e f) (PySem.W.kas_sort 3))=true:=by decide +kernel
variable {x:P}
theorem g0 (n:lR x) (k:lR y):∃b,Ju x y=some b:=by
 obtain⟨m,i,_,_,rfl⟩:=n;obtain⟨s,e,_,_,rfl⟩:=k;show ∃b,uH [.str m,.int i] [.str s,.int e]=some b;unfold uH;by_cases h:m=s
 .rw [if_pos h];unfold uH;by_cases a:(i == e)=true
  .rw [if_pos a];exact⟨_,rfl⟩
  .rw [if_neg a];exact⟨_,rfl⟩
 .rw [if_neg h];exact⟨_,rfl⟩
theorem kB (h:lR x):Ju x x=some false:=by obtain⟨m,i,_,_,rfl⟩:=h;show uH [.str m,.int i] [.str m,.int i]=some false;unfold uH;rw [if_pos rfl];unfold uH;rw [if_pos (by simp)];rfl
variable {n:Nat}
theorem xj (h:sS n o=true):∃p,o=some p/\p.size=n/\∀i ∈ p.toList,i < n:=by
 cases o with
 | none=>cases h
 | some p=>
  unfold sS at h;rw [Bool.and_eq_true] at h;refine⟨p,rfl,of_decide_eq_true h.1,fun i x=>?_⟩;have:=Array.all_eq_true'.mp h.2 i (by simpa using x)
  exact of_decide_eq_true this
theorem oV (h:jG r):∃t,jG t/\jo r=some (.lst t):=by
 have E:sortable r=true:=by
  unfold sortable;have:r.all nz=true:=bQ.mpr fun x k=>by obtain⟨m,i,_,_,rfl⟩:=h.2 x k;rfl
  rw [this,Bool.or_true]
 have o:∃t,jG t/\lK r=some t:=by
  unfold lK;by_cases q:r.length < 2
  .exact⟨r,h,by rw [if_pos q]⟩
  .rw [if_neg q,if_pos (by have:=h.1;lia)];have s:∀n,r.length=n->n≤3->sS n (Bl (je r) (PySem.W.kas_sort n))=true->∃t,jG t/\((Bl (je r) (PySem.W.kas_sort r.length)).bind fun p=>if p.size < 64 then some (p.toList.map fun i=>r.getD i .non) else none)=some t:=fun n C D P=>by
    obtain⟨p,e,G,q⟩:=xj P;refine⟨p.toList.map fun i=>r.getD i .non,⟨by simp;lia,fun l B=>?_⟩,by rw [C,e];simp [show p.size < 64 by lia]⟩;obtain⟨i,A,rfl⟩:=cn.mp B;have:=q i A
    rw [ir,dI (by lia)];exact h.2 _ (fw _)
   match r,h,q,s with
   | [x,y],h,_,s=>
    refine s 2 rfl (by lia) ?_;have k:=h.2 x (by simp);have v:=h.2 y (by simp);obtain⟨a,u⟩:=g0 k v;obtain⟨b,g⟩:=g0 v k;have:je [x,y]=Fd a b:=by
     funext i j;match i,j with
     | 0,0=>exact kB k
     | 0,1=>exact u
     | 1,0=>exact g
     | 1,1=>exact kB v
     | 0,j+2=>rfl
     | 1,j+2=>rfl
     | i+2,0=>rfl
     | i+2,1=>rfl
     | i+2,j+2=>rfl
    rw [this];exact Fu a b
   | [x,y,z],h,_,s=>
    refine s 3 rfl (by lia) ?_;have k:=h.2 x (by simp);have v:=h.2 y (by simp);have w:=h.2 z (by simp);obtain⟨a,u⟩:=g0 k v;obtain⟨b,g⟩:=g0 k w;obtain⟨c,H⟩:=g0 v k;obtain⟨d,S⟩:=g0 v w;obtain⟨e,F⟩:=g0 w k;obtain⟨f,K⟩:=g0 w v;have:je [x,y,z]=Fc a b c d e f:=by
     funext i j;match i,j with
     | 0,0=>exact kB k
     | 0,1=>exact u
     | 0,2=>exact g
     | 1,0=>exact H
     | 1,1=>exact kB v
     | 1,2=>exact S
     | 2,0=>exact F
     | 2,1=>exact K
     | 2,2=>exact kB w
     | 0,j+3=>rfl
     | 1,j+3=>rfl
     | 2,j+3=>rfl
     | i+3,0=>rfl
     | i+3,1=>rfl
     | i+3,2=>rfl
     | i+3,j+3=>rfl
    rw [this];exact Ft a b c d e f
   | [],_,q,_=>simp at q
   | [_],_,q,_=>simp at q
   | _::_::_::_::_,h,_,_=>have:=h.1;simp at this
 obtain⟨t,w,e⟩:=o;exact⟨t,w,by unfold jo;rw [if_pos E,e];rfl⟩
theorem lE:i ∈ bz N a↔N[i]? = some a:=by
 unfold bz;rw [fu];constructor
 .exact fun h=>of_decide_eq_true h.2
 .exact fun h=>⟨jX.mpr (ba h),im h⟩
variable {B:BD}
theorem rS (h:x ∈ B.PR):∃r ∈ B.roads,∃a b:Nat,x=pr r a b:=by unfold BD.PR bo at h;obtain⟨r,e,h⟩:=i_.mp h;unfold uB at h;obtain⟨a,_,h⟩:=i_.mp h;obtain⟨b,_,rfl⟩:=cn.mp h;exact⟨r,e,a,b,rfl⟩
theorem Hb (s:r ∈ B.roads) (x:B.N[a]? = some (rA r)) (e:B.N[b]? = some (rB r)) (h:a≠b):pr r a b ∈ B.PR:=by unfold BD.PR bo;refine i_.mpr ⟨r,s,?_⟩;unfold uB;refine i_.mpr ⟨a,lE.mpr x,cn.mpr ⟨b,?_,rfl⟩⟩;rw [fu];exact⟨lE.mpr e,by simpa using h⟩
structure Places (B:BD):Prop where
 get:∀(r:P) (a b:Nat),pr r a b ∈ B.PR->∃d,b0 [.inl (a:Int),.inl (b:Int)] B.ks B.vs=some d
 ok:∀(x y:Int) (d:D),b0 [.inl x,.inl y] B.ks B.vs=some d->∃(k:Nat) (r:P) (a b:Nat),r ∈ B.roads/\d=.p (.int (k:Int))/\B.PR[k]? = some (pr r a b)
noncomputable def b9 (B:BD) (rds:List P):Prop:=rds.length=B.PR.length/\∀r ∈ rds,∃ls,jG ls/\r=.tup ls
theorem b9.at {B:BD}{u:List P} (h:b9 B u) {k:Nat}{x:P} (n:B.PR[k]? = some x):k < u.length/\∃l,jG l/\u[k]? = some (.tup l):=by
 have a:k < u.length:=by rw [h.1];exact ba n
 obtain⟨l,e,s⟩:=h.2 u[k] (fw _);exact⟨a,l,e,by rw [dI a,s]⟩
variable {u:List P}
theorem b9.set (h:b9 B u) (k:Nat) (a:jG l):b9 B (u.set k (.tup l)):=by
 refine⟨by rw [fq];exact h.1,fun r x=>?_⟩;rcases List.mem_or_eq_of_mem_set x with x | rfl
 .exact h.2 r x
 .exact⟨l,a,rfl⟩
theorem nY (h:Pln B.fams B.roads B.wishes):B.PR.length≤2048:=by
 have N:B.N.length≤16:=aU (j_ h) (by decide);have k:∀s:List P,(bo B.N s).length≤256 * s.length:=by
  intro s;induction s with
  | nil=>simp [bo]
  | cons r s i=>have:=lb B.N r N;rw [show bo B.N (r::s)=uB B.N r++bo B.N s by simp [bo],cO,bx];lia
 have:=k B.roads;have:=h.rl
 unfold BD.PR;lia
theorem HD (h:Str->GF):mT Tb h "Board" "family_of"=some (h "Board.family_of"):=by kernel_rfl
theorem J2 (h:Str->GF):mT Tb h "Board" "hands_beside"=some (h "Board.hands_beside"):=by kernel_rfl
theorem HI:fields.contains "family_of"=false:=by decide +kernel
theorem J':fields.contains "hands_beside"=false:=by decide +kernel
theorem lr {a:List P}{h:Nat}{f:P} (s:(aB a)[h]? = some f):∃p:Nat,(homes a)[h]? = some (.int (p:Int))/\a[p]? = some f:=by
 unfold aB at s;unfold homes;rw [List.getElem?_map] at s ⊢;cases e:(hw 0 a)[h]? with
 | none=>rw [e] at s;cases s
 | some x=>rw [e] at s;cases s;obtain⟨j,n,k⟩:=lq (bA e);exact⟨x.1,rfl,by rw [n,dJ];exact k⟩
theorem uT {n:Nat} (r:2≤n) {B:BD}{b i:Nat}{S:aJ} (h:Bd B b i S) {k:Nat}{f:P} (m:(aB B.fams)[k]? = some f):Ph n "Board.family_of" [.ref i,.p (.int (k:Int))] S=some (.p f,S):=by obtain⟨n,rfl⟩:=fV (n:=n) (by first | assumption | lia);obtain⟨j,q,l,t,mk,v,h⟩:=h;obtain⟨p,e,a⟩:=lr m;have s:t3 (dP (aT Att) (aa 0) "homes") (vv 1) [some (.ref i),qi (k:Int)] S=some (.p (.int (p:Int)),S):=h.ho.ix (h.homes rfl) rfl (bw e);have c:dP (aT Att) (aa 0) "families" [some (.ref i),qi (k:Int)] S=some (.p (.lst B.fams),S):=h.families rfl;rw [cd];show (match aO _ [some (.ref i),qi (k:Int)] S with | some (.rt d,_,x)=>some (d,x) | some (.nx,_,x)=>some (.p .non,x) | _=>none)=_;rw [mH,jn,c,aD,m9,s];simp [bw a]
theorem zV (F:2≤n) (P:Pln B.fams B.roads B.wishes) (h:Bd B b i S) (k:Nat) (g:a ∈ B.N):∃e,Ph n "Board.hands_beside" [.ref i,.p (.int (k:Int)),.p (.str a)] S=some (.p (.lst (cF (oth B.N a k))),e)/\Fr b S e:=by
 obtain⟨n,rfl⟩:=fV (n:=n) (by first | assumption | lia);obtain⟨A,G,C,E,mk,I,h⟩:=h;obtain⟨j,u,m,s⟩:=h.mm a g;refine⟨_,?_,Fr.frz u s⟩;have r:t3 (dP (aT Att) (aa 0) "members") (vv 2) [some (.ref i),qi (k:Int),qs a] S=some (.ref j,S):=by rw [jn,h.members rfl];simp [h.me,cg,m]
 have l:(cF (bz B.N a)).length≤1000000:=by have:=dB B.N a;have:B.N.length≤4:=j_ P;simp [cF];lia
 have t:br (ag 3) (bV (aH mN (aa 3) (aa 1))) (vv 3) (cF (bz B.N a)) [some (.ref i),qi (k:Int),qs a,none] (S.set j (.fz (.lst (cF (bz B.N a)))))=some (cF (oth B.N a k),S.set j (.fz (.lst (cF (bz B.N a))))):=by
  rw [bM (p:=fun v=>match v with | .int x=>!decide (k=x.toNat) | _=>false) (f:=id) (Inv:=fun L=>∃d,L=[some (.ref i),qi (k:Int),qs a,d]) (fun v c L w=>?_) ⟨none,rfl⟩]
  .congr 2;unfold cF oth;rw [pG,List.map_id];rfl
  .obtain⟨d,rfl⟩:=w;unfold cF at c;obtain⟨o,K,rfl⟩:=cn.mp c;refine⟨[some (.ref i),qi (k:Int),qs a,qi (o:Int)],rfl,⟨_,rfl⟩,?_,fun _=>by simp⟩;by_cases q:k=o
   .simp [q]
   .have y:¬(o:Int)=(k:Int):=by lia
    have H:¬o=k:=fun z=>q z.symm;simp [q,y,H]
 rw [cf];show (match aO _ [some (.ref i),qi (k:Int),qs a] S with | some (.rt d,_,e)=>some (d,e) | some (.nx,_,e)=>some (.p .non,e) | _=>none)=_;simp only [bD,mH,o_,aY,gO,m9,r,aD,s.frz];rw [if_pos (by rw [lu];exact l)];rw [show jI [] 1 [some (D.ref i),qi (k:Int),qs a]=[some (.ref i),qi (k:Int),qs a,none] from rfl,t];rfl
structure GC (B:BD) where
 b:Nat
 i:Nat
 S0:aJ
 r:Nat
 bd:Bd B b i S0
 hr:S0.length≤r
theorem GC.le (G:GC B):G.b≤G.S0.length:=G.bd.le
theorem j' {i:Type}{g:iY}{b:ES}{p:i->Lc->Prop}{Sp:i->aJ->Prop}{r:i->Nat}{c M:Nat}{f:P->List P}:∀{s:List P},
  (∀x ∈ s,(f x).length≤c/\∀G L S w,p G L->Sp G S->S[r G]? = some (.lst (w.map .p))->w.length+c≤M->∃k L2 e,g x L=some k/\b k S=some (.nx,L2,e)/\p G L2/\Sp G e/\e[r G]? = some (.lst ((w++f x).map .p))) ->
  (s.flatMap f).length≤c * s.length/\∀G L S w,p G L->Sp G S->S[r G]? = some (.lst (w.map .p))->w.length+c * s.length≤M->∃n a,aZ g b s L S=some (.nx,n,a)/\p G n/\Sp G a/\a[r G]? = some (.lst ((w++s.flatMap f).map .p))
 | [],_=>⟨by simp,fun G L S w m v h _=>⟨L,S,rfl,m,v,by rw [List.flatMap_nil,List.append_nil];exact h⟩⟩
 | x::s,j=>by
  obtain⟨D,H⟩:=j x List.mem_cons_self;obtain⟨I,C⟩:=j' (s:=s) fun y B=>j y (bg _ B);have A:c * (x::s).length=c+c * s.length:=by rw [bx,Nat.mul_succ,Nat.add_comm]
  refine⟨by rw [A,ja,cO];lia,fun G L S w m v h E=>?_⟩;obtain⟨k,L2,e,l,z,q,u,F⟩:=H G L S w m v h (by lia);obtain⟨n,a,o,t,d,K⟩:=C G L2 e (w++f x) q u F (by rw [cO];lia);exact⟨n,a,by rw [bC l z];exact o,t,d,by rw [ja,<- List.append_assoc];exact K⟩
theorem eP {q:Type}{g:iY}{b:ES}{p:q->Lc->Prop}{Sp:q->aJ->Prop}{r:q->Nat}{Q:P->Prop}{c M:Nat}{e:List P}
  (h:∀x ∈ e,∃s:List P,s.length≤c/\(∀y ∈ s,Q y)/\∀G L S w,p G L->Sp G S->S[r G]? = some (.lst (w.map .p))->w.length+c≤M->∃d L2 m,g x L=some d/\b d S=some (.nx,L2,m)/\p G L2/\Sp G m/\m[r G]? = some (.lst ((w++s).map .p))) :
  ∃s:List P,s.length≤c * e.length/\(∀y ∈ s,Q y)/\∀G L S w,p G L->Sp G S->S[r G]? = some (.lst (w.map .p))->w.length+c * e.length≤M->∃v k,aZ g b e L S=some (.nx,v,k)/\p G v/\Sp G k/\k[r G]? = some (.lst ((w++s).map .p)):=by
 let f:P->List P:=fun x=>@dite _ (x ∈ e) (Classical.propDecidable _) (fun a=>Classical.choose (h x a)) fun _=>[]
 have u:∀x a,f x=Classical.choose (h x a):=fun x a=>dif_pos a;have t:=fun x a=>Classical.choose_spec (h x a);obtain⟨i,j⟩:=j' (f:=f) fun x a=>by rw [u x a];exact⟨(t x a).1,(t x a).2.2⟩
 exact⟨_,i,fun y n=>by obtain⟨x,a,n⟩:=i_.mp n;rw [u x a] at n;exact (t x a).2.1 y n,j⟩
theorem hU (h:S[r]? = some o):(S.set r a)[r]? = some a:=by rw [cL (ba h)]
variable {k:Nat}{w:List P}
theorem jA (n:r L S=some (.ref k,S)) (h:S[k]? = some (.lst (w.map .p))) (s:a L S=some (.lst y,e)) (x:e[k]? = some (.lst (w.map .p))) (l:w.length+y.length≤1000000):bL (dH r a) L S=some (.nx,L,e.set k (.lst ((w++y).map .p))):=by rw [kx,uV,n,aD];simp only [dk,h,s,aD,x,bP];rw [if_pos (by rw [kH];exact l),List.map_append];rfl
theorem iQ (n:r L S=some (.ref k,S)) (h:S[k]? = some (.lst (w.map .p))) (s:a L S=some (.p y,e)) (x:e[k]? = some (.lst (w.map .p))) (l:w.length≤1000000):bL (bu r a) L S=some (.nx,L,e.set k (.lst ((w++[y]).map .p))):=by rw [kx,kc,n,aD];simp only [dk,h,s,aD,x];rw [if_pos (by rw [lu,bP];exact l),List.map_append];rfl
theorem Ca (m:Pln B.fams B.roads B.wishes) (n:a ∈ B.fams):be a ∈ B.N:=by
 have p:1≤gb a:=by
  obtain⟨q,c,o,e,w,t,h,rfl⟩:=m.hf a n;have:=h.hcr.1
  simp [gb];lia
 have y:∀(f:List P) (k:Nat),a ∈ f->∃x ∈ hw k f,x.2=a:=by
  intro f;induction f with
  | nil=>intro k h;cases h
  | cons g r i=>
   intro k h;rcases az.mp h with rfl | h
   .exact⟨(k,a),by unfold hw;exact jb _ (pO.mpr ⟨by lia,rfl⟩),rfl⟩
   .obtain⟨x,s,b⟩:=i (k+1) h;exact⟨x,by unfold hw;exact fY _ s,b⟩
 obtain⟨x,s,rfl⟩:=y B.fams 0 n;unfold BD.N aq aB;exact cn.mpr ⟨x.2,cn.mpr ⟨x,s,rfl⟩,rfl⟩
theorem Hd (f:(aB B.fams)[k]? = some h):B.N[k]? = some (be h):=by unfold BD.N aq;rw [List.getElem?_map,f];rfl
noncomputable def tY (B:BD) (u:List P) (hd:Nat) (y:P):Prop:=∃(s p k:Nat) (l:List P),y=.tup [.int (s:Int),.int (p:Int)]/\b0 [.inl (s:Int),.inl (hd:Int)] B.ks B.vs=qi (k:Int)/\k < u.length/\u[k]? = some (.tup l)/\jG l/\p < l.length
theorem CA {B:BD} (hP:Pln B.fams B.roads B.wishes) (G:Places B) {n:Nat} (hn:2≤n) {u:List P} (hr:b9 B u) {hd s:Nat}{d:D} (j:b0 [.inl (s:Int),.inl (hd:Int)] B.ks B.vs=some d) {t:Str}{g:List P} :
  ∃ys:List P,ys.length≤3/\(∀y ∈ ys,tY B u hd y)/\∀(b i:Nat) (S:aJ) (r:Nat) (w:List P) (q6 W A K:Option D),Bd B b i S->S[r]? = some (.lst (w.map .p))->w.length+3≤1000000 ->
   ∃V X Y Z,dw (Ph n) (Ph (n-1)) [some (.ref i),qp (.tup u),qi (hd:Int),qp (.tup (.str t::g)),some (.ref r),qi (s:Int),q6,W,A,K] S=some (.nx,[some (.ref i),qp (.tup u),qi (hd:Int),qp (.tup (.str t::g)),some (.ref r),qi (s:Int),V,X,Y,Z],S.set r (.lst ((w++ys).map .p))):=by
 obtain⟨k,road,a,b',J,rfl,hk⟩:=G.ok _ _ _ j;obtain⟨I,l,q,H⟩:=hr.at hk;obtain⟨ra,rb,f,c,d1,d2,ha,hb,hkd,hc1,hc2,rfl⟩:=hP.hr road J;have h3:=q.1;have e:∃e:List P,e.length≤l.length/\(∀y ∈ e,Be l.length y)/\∀(L:Lc) (S:aJ),L[7]? = some (qs f)->L[8]? = some (qp (.tup l))->BJ (bV (aH d9 (aa 7) (eV (vt "row")))) (j5 (Ei (dU (aa 8))) gI (gm (vi 1))) (af (pureOf (Ph n "unlike_spots")) (v2 (vv 7) (vv 8))) L S=some (.lst e,S):=by
  obtain⟨us,O,Q,eu⟩:=BK hn f q;have hq:l.length < 1000000:=by lia
  by_cases o:f="row"
  .refine⟨cut (intsFrom 0 l.length) none (some 1),by have:=(mP (h:=intsFrom 0 l.length) (lo:=none) (i:=some 1)).2;rwa [bv] at this,fun y U=>?_,fun L S C E=>?_⟩
   .obtain⟨i,rfl,hi⟩:=e_ (mP.1 y U);exact⟨i,hi,by simp⟩
   .simp [C,E,o,cj,cQ,hq]
  .exact⟨us,O,Q,fun L S C E=>by simp [C,E,o,eu]⟩
 obtain⟨e,M,F,es⟩:=e;let p:P->Bool:=fun v=>match v with | .int x=>decide (be (l.getD x.toNat .non)=t) | _=>false
 refine⟨(e.filter p).map fun v=>.tup [.int (s:Int),v],by rw [bP];exact aU (j4 ..) (aU M h3),fun y U=>?_,fun b i S r w q6 W A K hB hS hM=>?_⟩
 .obtain⟨v,R,rfl⟩:=cn.mp U;obtain⟨x,T,rfl⟩:=F v (fu.mp R).1;exact⟨s,x,k,l,rfl,j,I,H,q,T⟩
 .obtain⟨jh,jp,jl,jm,mk,mv,h⟩:=hB;have e2:br (ag 10) (bV (aH d9 (eV (ab am (ab am (vv 8) (vv 10)) (vi 0))) (eV (ab am (vv 3) (vi 0))))) (aF (v2 (vv 5) (vv 10))) e [some (.ref i),qp (.tup u),qi (hd:Int),qp (.tup (.str t::g)),some (.ref r),qi (s:Int),qi (k:Int),qs f,qp (.tup l),ql e,none] S=some ((e.filter p).map fun v=>.tup [.int (s:Int),v],S):=
   bM (Inv:=fun L=>∃d,L=[some (.ref i),qp (.tup u),qi (hd:Int),qp (.tup (.str t::g)),some (.ref r),qi (s:Int),qi (k:Int),qs f,qp (.tup l),ql e,d]) (fun v R L G=>by obtain⟨d,rfl⟩:=G;obtain⟨x,T,rfl⟩:=F v R;have j:l[x]? = some l[x]:=dI T;obtain⟨m,z,_,_,hz⟩:=q.2 l[x] (fw _);rw [hz] at j;refine⟨[some (.ref i),qp (.tup u),qi (hd:Int),qp (.tup (.str t::g)),some (.ref r),qi (s:Int),qi (k:Int),qs f,qp (.tup l),ql e,qi (x:Int)],rfl,⟨_,rfl⟩,?_,fun _=>by simp⟩;simp [bw j,p,j,be]) ⟨none,rfl⟩
  refine⟨qi (k:Int),qs f,qp (.tup l),ql e,?_⟩;have N:e.length≤1000000:=by lia
  unfold dw;refine (al (e:=[some (.ref i),qp (.tup u),qi (hd:Int),qp (.tup (.str t::g)),some (.ref r),qi (s:Int),qi (k:Int),W,A,K]) (b:=S) ?_).trans ?_
  .rw [dW,wb,h.places rfl];simp [iB,h.pl,cw,cg,j]
  refine (al (e:=[some (.ref i),qp (.tup u),qi (hd:Int),qp (.tup (.str t::g)),some (.ref r),qi (s:Int),qi (k:Int),qs f,A,K]) (b:=S) ?_).trans ?_
  .rw [dW,jn,jn,h.pr.ix (h.pairs rfl) (i:=(k:Int)) rfl (bw hk)];simp [pr]
  refine (al (e:=[some (.ref i),qp (.tup u),qi (hd:Int),qp (.tup (.str t::g)),some (.ref r),qi (s:Int),qi (k:Int),qs f,qp (.tup l),K]) (b:=S) ?_).trans ?_
  .simp [bw H]
  refine (al (e:=[some (.ref i),qp (.tup u),qi (hd:Int),qp (.tup (.str t::g)),some (.ref r),qi (s:Int),qi (k:Int),qs f,qp (.tup l),ql e]) (b:=S) ?_).trans ?_
  .rw [dW,o_,es _ S rfl rfl];rfl
  refine jA rfl hS ?_ hS (by rw [bP];have:=j4 p e;lia);simp only [aY,gO,m9];simp [N,jI,e2]
theorem Ar {B:BD} (H:Pln B.fams B.roads B.wishes) (hL:Places B) {n:Nat} (hn:4≤n) {hd:Nat}{f:P} (hf:(aB B.fams)[hd]? = some f) {u K:List P} (hr:b9 B u) {I:P} (ht:ll (be f) B.roads K I) :
  ∃p:List P,p.length≤12/\(∀y ∈ p,(I=.non/\y=.non)\/(I≠.non/\tY B u hd y))/\∀(b i:Nat) (S:aJ),Bd B b i S->∃d j,Ph n "takeable" [.ref i,.p (.tup u),.p (.int (hd:Int)),.p I] S=some (d,j)/\Fr b S j/\lJ S j d p:=by
 obtain⟨n,rfl⟩:=fV (n:=n) (by first | assumption | lia);rcases ht with rfl | ⟨m,a,t,k,_,_,_,_,⟨r,F,V,rfl⟩,_,rfl⟩
 .refine⟨[.non],by simp,fun y X=>.inl ⟨rfl,by simpa using X⟩,fun b i S z=>⟨.p (.lst [.non]),S,?_,Fr.refl _ _,.inl rfl⟩⟩;rw [ff];simp [cH,dn,rW,d4]
 .have v:rA r ∈ B.N:=by
   obtain⟨⟨f',h1,O⟩,_⟩:=H.ra r F;rw [<- O];exact Ca H h1
  obtain⟨p,h1,O,h3⟩:=eP (q:=GC B) (g:=ag 5) (b:=dw (Ph (n+1)) (Ph n)) (Sp:=fun G S=>Fr G.b G.S0 S) (r:=fun G=>G.r) (Q:=tY B u hd) (c:=3) (M:=1000) (e:=cF (oth B.N (rA r) hd))
   (p:=fun G L=>∃Y A C D E,L=[some (.ref G.i),qp (.tup u),qi (hd:Int),qp (.tup [.str m,.str (rA r),.str t,.str k]),some (.ref G.r),Y,A,C,D,E]) (fun x hx=>by
    unfold cF at hx;obtain⟨s,v,rfl⟩:=cn.mp hx;unfold oth at v;rw [fu] at v;have W:s≠hd:=fun q=>by have:=v.2;simp [q] at this
    obtain⟨d,hg⟩:=hL.get r s hd (Hb F (lE.mp v.1) (by rw [Hd hf,V]) W);obtain⟨p,k1,k2,k3⟩:=CA H hL (n:=n+1) (by lia) hr hg (t:=m) (g:=[.str (rA r),.str t,.str k]);refine⟨p,k1,k2,fun G L S w T hS h hM=>?_⟩;obtain⟨Y,A,C,D,E,rfl⟩:=T;obtain⟨q6',q7',q8',q9',e⟩:=k3 G.b G.i S G.r w A C D E (G.bd.fr hS) h (by lia);exact⟨_,_,_,rfl,e,⟨_,_,_,_,_,rfl⟩,hS.set G.le G.hr _,hU h⟩)
  have hol:(cF (oth B.N (rA r) hd)).length≤4:=by
   have h4:B.N.length≤4:=j_ H;have:=dB B.N (rA r)
   have:=j4 (fun o=>!decide (hd=o)) (bz B.N (rA r));simp [cF,oth];lia
  refine⟨p,by lia,fun y X=>.inr ⟨fun q=>(by cases q),O y X⟩,fun b i S z=>?_⟩;have uQ:=Fr.app b S [.lst []];obtain⟨Z,e1,l⟩:=zV (n:=n+1) (by lia) H (z.fr uQ) hd v;have J:=uQ.trans l;have hb:=z.le;obtain⟨L',j,e2,⟨Y,A,C,D,E,rfl⟩,N,hl⟩:=h3 ⟨b,i,S,S.length,z,Nat.le_refl _⟩ [some (.ref i),qp (.tup u),qi (hd:Int),qp (.tup [.str m,.str (rA r),.str t,.str k]),some (.ref S.length),none,none,none,none,none] Z [] ⟨_,_,_,_,_,rfl⟩ J (l.hi _ _ hb (gB _ _)) (by simp;lia);refine⟨.ref S.length,j,?_,N,.inr ⟨S.length,Nat.le_refl _,rfl,.inl hl⟩⟩;rw [ff];have R:=z.fr uQ;obtain⟨jh,jp,jl,jm,mk,mv,U⟩:=R;have em:dG (mT Tb (Ph (n+1))) (aa 0) "hands_beside" (ac (aa 2) (ac (eV (ab am (vv 3) (vi 1))) bf)) [some (.ref i),qp (.tup u),qi (hd:Int),qp (.tup [.str m,.str (rA r),.str t,.str k]),some (.ref S.length),none,none,none,none,none] (S++[.lst []])=some (.p (.lst (cF (oth B.N (rA r) hd))),Z):=
   (U.meth rfl (J2 _) J' (l:=[.p (.int (hd:Int)),.p (.str (rA r))]) (by simp)).trans e1
  simp [cH,dn,rW,d4,-ib,em,e2]
noncomputable def o9 (v:P):Prop:=∃j:Int,v=.int j
theorem o9.ok (h:o9 v) (n:Nat):dq n v=true:=by obtain⟨j,rfl⟩:=h;simp
variable {m:Str}
theorem C1 (hP:Pln B.fams B.roads B.wishes) (hL:Places B) (hn:2≤n) (T:b9 B u) (hd t v:Int) (hm:PyData.strOk m=true) :
  ∃I:Option (List P),(∀j,I=some j->b9 B j)/\∀(b i:Nat) (S:aJ) (s:P) (p e x:Option D),Bd B b i S->∃C E G,
   ey (Ph n) (Ph (n-1)) [some (.ref i),qp (.tup u),qi hd,qp s,qp (.tup [.str m,.int v]),qi t,p,e,x] S=match I with
    | none=>some (.rt (.p .non),[some (.ref i),qp (.tup u),qi hd,qp s,qp (.tup [.str m,.int v]),qi t,C,E,G],S)
    | some j=>some (.nx,[some (.ref i),qp (.tup j),qi hd,qp s,qp (.tup [.str m,.int v]),qi t,C,E,G],S):=by
 cases N:b0 [.inl hd,.inl t] B.ks B.vs with
 | none=>
  refine⟨none,fun _ q=>(by cases q),fun b i S s p e x r=>⟨qp .non,e,x,?_⟩⟩;obtain⟨V,Y,W,X,mk,Z,h⟩:=r;unfold ey;refine (al (e:=[some (.ref i),qp (.tup u),qi hd,qp s,qp (.tup [.str m,.int v]),qi t,qp .non,e,x]) (b:=S) ?_).trans (uw ?_)
  .rw [dW,sZ,h.places rfl];simp [iB,h.pl,cw,cg,N]
  .simp [rW,d4]
 | some d=>
  obtain⟨k,road,a,b',U,rfl,O⟩:=hL.ok _ _ _ N;obtain⟨Q,A,R,l⟩:=T.at O;obtain⟨ra,rb,J,c,d1,d2,ha,hb,hkd,hc1,hc2,y⟩:=hP.hr road U;have L:L2.atI [P.str ra,.str rb,.str J,.int c,.bl d1,.bl d2] 3=some (.int c):=bn (by decide) rfl;have s1:∀(b i:Nat) (S:aJ) (s:P) (p e x:Option D),Bd B b i S->ao 6 (s_ (dP (aT Att) (aa 0) "places") (v2 (vv 2) (vv 5))) [some (.ref i),qp (.tup u),qi hd,qp s,qp (.tup [.str m,.int v]),qi t,p,e,x] S=some (.nx,[some (.ref i),qp (.tup u),qi hd,qp s,qp (.tup [.str m,.int v]),qi t,qi (k:Int),e,x],S):=fun b i S s p e x r=>by obtain⟨V,Y,W,X,mk,Z,h⟩:=r;rw [dW,sZ,h.places rfl];simp [iB,h.pl,cw,cg,N]
  by_cases hv:v.natAbs≤999
  .have g:¬(999:Int) < (if v < 0 then -v else v):=by split <;> lia
   by_cases M:c≤(A.length:Int)
   .refine⟨none,fun _ q=>(by cases q),fun b i S s p e x r=>⟨qi (k:Int),qp road,x,?_⟩⟩;refine (al (s1 b i S s p e x r)).trans ((al (e:=[some (.ref i),qp (.tup u),qi hd,qp s,qp (.tup [.str m,.int v]),qi t,qi (k:Int),e,x]) (b:=S) ?_).trans ((al (e:=[some (.ref i),qp (.tup u),qi hd,qp s,qp (.tup [.str m,.int v]),qi t,qi (k:Int),qp road,x]) (b:=S) ?_).trans (uw ?_)))
    .simp [rW,d4,lZ,g]
    .obtain⟨V,Y,W,X,mk,Z,h⟩:=r;rw [dW,jn,h.pr.ix (h.pairs rfl) (i:=(k:Int)) rfl (bw O)];simp [pr]
    .simp [y,bw l,cj,cQ,L,M]
   .have H:(A++[P.tup [.str m,.int v]]).length≤3:=by simp;lia
    have F:jG (A++[P.tup [.str m,.int v]]):=⟨H,dg R.2 ⟨m,v,hm,hv,rfl⟩⟩;have ea:=gD (xs:=A) (m:=[P.tup [.str m,.int v]]) (by simp at H ⊢;lia);obtain⟨zs,hz,ez⟩:=oV F;have hpl:=nY hP;have hrl:=T.1;have er:=fun (w:P)=>ni hn (xs:=u) (k:=k) Q (by lia) w;obtain⟨f,o,K⟩:∃f,jG f/\((J="heap"/\f=zs)\/(¬J="heap"/\f=A++[P.tup [.str m,.int v]])):=by
     by_cases z:J="heap"
     .exact⟨zs,hz,.inl ⟨z,rfl⟩⟩
     .exact⟨_,F,.inr ⟨z,rfl⟩⟩
    refine⟨some (u.set k (.tup f)),fun _ q=>by cases q;exact T.set k o,fun b i S s p e x r=>⟨qi (k:Int),qp road,qp (.tup f),?_⟩⟩;refine (al (s1 b i S s p e x r)).trans ((al (e:=[some (.ref i),qp (.tup u),qi hd,qp s,qp (.tup [.str m,.int v]),qi t,qi (k:Int),e,x]) (b:=S) ?_).trans ((al (e:=[some (.ref i),qp (.tup u),qi hd,qp s,qp (.tup [.str m,.int v]),qi t,qi (k:Int),qp road,x]) (b:=S) ?_).trans ?_))
    .simp [rW,d4,lZ,g]
    .obtain⟨V,Y,W,X,mk,Z,h⟩:=r;rw [dW,jn,h.pr.ix (h.pairs rfl) (i:=(k:Int)) rfl (bw O)];simp [pr]
    rcases K with ⟨z,rfl⟩ | ⟨z,rfl⟩
    .simp [y,bw l,cj,cQ,L,M,ea,z,wN,Ay,ez,bK,er]
    .simp [y,bw l,cj,cQ,L,M,ea,z,er]
  .have g:(999:Int) < (if v < 0 then -v else v):=by split <;> lia
   refine⟨none,fun _ q=>(by cases q),fun b i S s p e x r=>⟨qi (k:Int),e,x,?_⟩⟩;refine (al (s1 b i S s p e x r)).trans (uw ?_);simp [rW,d4,lZ,g]
theorem vI (F:Pln B.fams B.roads B.wishes) (H:Places B) (A:2≤n) (hd v:Int) (K:PyData.strOk m=true):∀{l:List P},(∀t ∈ l,o9 t)->∀{u:List P},b9 B u ->
  ∃r:Option (List P),(∀s,r=some s->b9 B s)/\∀(b i:Nat) (S:aJ) (d:P) (w f c p:Option D),Bd B b i S->∃L z h a k,
   aZ (ag 5) (ey (Ph n) (Ph (n-1))) l [some (.ref i),qp (.tup u),qi hd,qp d,qp (.tup [.str m,.int v]),w,f,c,p] S=match r with
    | none=>some (.rt (.p .non),L,S)
    | some s=>some (.nx,[some (.ref i),qp (.tup s),qi hd,qp d,qp (.tup [.str m,.int v]),z,h,a,k],S)
 | [],_,u,y=>⟨some u,fun _ q=>by cases q;exact y,fun b i S d w f c p _=>⟨[],w,f,c,p,rfl⟩⟩
 | t::l,C,u,y=>by
  obtain⟨j,rfl⟩:=C t List.mem_cons_self;obtain⟨r,N,o⟩:=C1 F H A y hd j v K;cases r with
  | none=>refine⟨none,fun _ q=>(by cases q),fun b i S d w f c p g=>?_⟩;obtain⟨h,a,k,e⟩:=o b i S d f c p g;exact⟨_,w,f,c,p,sV rfl e⟩
  | some s=>obtain⟨r,Q,R⟩:=vI F H A hd v K (l:=l) (fun x O=>C x (bg _ O)) (N s rfl);refine⟨r,Q,fun b i S d w f c p g=>?_⟩;obtain⟨h,a,k,e⟩:=o b i S d f c p g;obtain⟨L,E,G,I,J,M⟩:=R b i S d (qi j) h a k g;exact⟨L,E,G,I,J,by rw [<- M];exact bC rfl e⟩
theorem AK (p:Pln B.fams B.roads B.wishes) (f:Places B) (g:3≤n) (hd v:Int) (q:PyData.strOk m=true) (w:∀t ∈ c,o9 t) (d:b9 B u) :
  ∃a:P,(a=.non\/∃r,b9 B r/\a=.tup r)/\∀(b i:Nat) (S:aJ),Bd B b i S->Ph n "posted" [.ref i,.p (.tup u),.p (.int hd),.p (.lst c),.p (.tup [.str m,.int v])] S=some (.p a,S):=by
 obtain⟨n,rfl⟩:=fV (n:=n) (by first | assumption | lia);obtain⟨s,k,x⟩:=vI p f (n:=n+1) (by lia) hd v q w d;cases s with
 | none=>refine⟨.non,.inl rfl,fun b i S h=>?_⟩;obtain⟨L,_,_,_,_,e⟩:=x b i S (.lst c) none none none none h;rw [gR];simp only [j1] at e;simp [cH,eL,e]
 | some r=>refine⟨.tup r,.inr ⟨r,k r rfl,rfl⟩,fun b i S h=>?_⟩;obtain⟨L,_,_,_,_,e⟩:=x b i S (.lst c) none none none none h;rw [gR];simp only [j1] at e;simp [cH,eL,e]
noncomputable def B0 (y:P):Prop:=∃s h,y=.tup [.tup s,.lst h]/\s.length≤1/\(∀a ∈ s,o9 a)/\∀t ∈ h,o9 t
noncomputable abbrev eS (n:Str) (e:Nat) (r c w s:List P):P:=.tup [.str n,.int (e:Int),.lst r,.lst c,.lst w,.lst s]
theorem vw {s:List P} (h:∀x ∈ s,kj x) {x:Str} (a:P.str x ∈ s):∃i:Nat,i < s.length/\j9 s (.str x)=some i:=nD (fun y e=>(h y e).ok 19) a
theorem tg_ok {B:BD} (G:Pln B.fams B.roads B.wishes) {n:Nat} (hn:4≤n) {hd:Nat}{J:Str}{x:Nat}{m c s e:List P} (hF:Fam B.roads J x m c s e) (hf:(aB B.fams)[hd]? = some (eS J x m c s e)) {g:List P} (hw:g.length=s.length) (R:∀w ∈ g,o9 w) {u z:Str}
  (hc:(u="who"/\P.str z ∈ s)\/((u="all"\/u="any")/\∃r ∈ B.roads,rA r=J/\z=rB r)) :
  ∃T:List P,T.length≤4/\(∀y ∈ T,B0 y)/\∀(b i:Nat) (S:aJ),Bd B b i S->∃F,Ph n "targets_of" [.ref i,.p (.int (hd:Int)),.p (.str u),.p (.str z),.p (.tup g)] S=some (.p (.lst T),F)/\Fr b S F:=by
 obtain⟨n,rfl⟩:=fV (n:=n) (by first | assumption | lia);rcases hc with ⟨rfl,N⟩ | ⟨D,r,O,hra,rfl⟩
 .obtain⟨k,hk,Z⟩:=vw hF.hwh N;have U:g[k]? = some (g[k]'(by lia)):=dI (by lia);generalize W:g[k]'(by lia)=v at U;have Q:o9 v:=by rw [<- W];exact R _ (fw _)
  refine⟨[.tup [.tup [],.lst [v]]],by simp,fun y E=>⟨[],[v],by simpa using E,by simp,fun _ h=>(by cases h),fun t I=>by rw [j0.mp I];exact Q⟩,fun b i S j=>⟨S,?_,Fr.refl _ _⟩⟩;have Y:=uT (n:=n+1) (by lia) j hf;obtain⟨jh,jp,jl,jm,mk,mv,h⟩:=j;have A:dG (mT Tb (Ph (n+1))) (aa 0) "family_of" (ac (aa 1) bf) [some (.ref i),qi (hd:Int),qs "who",qs z,qp (.tup g),none] S=some (.p (eS J x m c s e),S):=
   (h.meth rfl (HD _) HI (l:=[.p (.int (hd:Int))]) (by simp)).trans Y
  rw [db];simp [cH,b6,-ib,A,H_,Z,bw U]
 .have hs:rB r ∈ B.N:=by
   obtain⟨_,⟨f',h1,h2⟩⟩:=G.ra r O;rw [<- h2];exact Ca G h1
  have C:(cF (oth B.N (rB r) hd)).length≤4:=by
   have h4:B.N.length≤4:=j_ G;have:=dB B.N (rB r)
   have:=j4 (fun o=>!decide (hd=o)) (bz B.N (rB r));simp [cF,oth];lia
  have l:∀t ∈ cF (oth B.N (rB r) hd),o9 t:=fun t I=>by unfold cF at I;obtain⟨o,_,rfl⟩:=cn.mp I;exact⟨_,rfl⟩
  have A:∀(b i:Nat) (S:aJ),Bd B b i S->∃F,dG (mT Tb (Ph (n+1))) (aa 0) "hands_beside" (ac (aa 1) (ac (aa 3) bf)) [some (.ref i),qi (hd:Int),qs u,qs (rB r),qp (.tup g),none] S=some (.p (.lst (cF (oth B.N (rB r) hd))),F)/\Fr b S F:=fun b i S j=>by obtain⟨H,K,q⟩:=zV (n:=n+1) (by lia) G j hd hs;obtain⟨jh,jp,jl,jm,mk,mv,h⟩:=j;exact⟨H,(h.meth rfl (J2 _) J' (l:=[.p (.int (hd:Int)),.p (.str (rB r))]) (by simp)).trans K,q⟩
  generalize cF (oth B.N (rB r) hd)=os at C l A;rcases D with rfl | rfl
  .refine⟨[.tup [.tup [],.lst os]],by simp,fun y E=>⟨[],os,by simpa using E,by simp,fun _ h=>(by cases h),l⟩,fun b i S j=>?_⟩;obtain⟨H,K,q⟩:=A b i S j;refine⟨H,?_,q⟩;rw [db];simp [cH,b6,-ib,K]
  .refine⟨os.map fun o=>.tup [.tup [o],.lst [o]],by simpa using C,fun y E=>?_,fun b i S j=>?_⟩
   .obtain⟨o,V,rfl⟩:=cn.mp E;exact⟨[o],[o],rfl,by simp,fun a M=>by rw [j0.mp M];exact l o V,fun a M=>by rw [j0.mp M];exact l o V⟩
   .obtain⟨H,K,q⟩:=A b i S j;refine⟨H,?_,q⟩;have X:br (ag 6) eT (aF (v2 (aF (v1 (vv 6))) (aW (v1 (vv 6))))) os [some (.ref i),qi (hd:Int),qs "any",qs (rB r),qp (.tup g),ql os,none] H=some (os.map fun o=>.tup [.tup [o],.lst [o]],H):=by
     rw [bM (p:=fun _=>true) (f:=fun o=>.tup [.tup [o],.lst [o]]) (Inv:=fun L=>∃d,L=[some (.ref i),qi (hd:Int),qs "any",qs (rB r),qp (.tup g),ql os,d]) (fun v W L hL=>?_) ⟨none,rfl⟩,dN];obtain⟨d,rfl⟩:=hL;exact⟨[some (.ref i),qi (hd:Int),qs "any",qs (rB r),qp (.tup g),ql os,qp v],rfl,⟨_,rfl⟩,rfl,fun _=>by simp⟩
    have hq:os.length≤1000000:=by lia
    rw [db];simp [cH,b6,-ib,K,aY,hq,jI,X]
noncomputable def zg (y:P):Prop:=∃s p:Nat,y=.tup [.int (s:Int),.int (p:Int)]
theorem E5 {n:Nat} (B:3≤n) {j:List P}{d:Str}{e:Nat}{r c o t:List P} (F:Fam j d e r c o t) {x:List P} (hw:x.length=o.length) (i:∀w ∈ x,o9 w) {p y:P} (H:ll d j o p) (K:(p=.non/\y=.non)\/(p≠.non/\zg y)) :
  ∃f,f.length=o.length/\(∀w ∈ f,o9 w)/\pureOf (Ph n "whos_behind") [eS d e r c o t,.tup x,p,y]=some (.tup f):=by
 obtain⟨n,rfl⟩:=fV (n:=n) (by first | assumption | lia);rcases H with rfl | ⟨m,a,g,u,_,_,_,_,_,b,rfl⟩
 .refine⟨x,hw,i,?_⟩;rw [cE,aj];simp [bH,rW,d4]
 .obtain⟨s,C,rfl⟩:zg y:=by
   rcases K with ⟨q,_⟩ | ⟨_,q⟩
   .cases q
   .exact q
  by_cases v:u=""
  .refine⟨x,hw,i,?_⟩;rw [cE,aj];simp [bH,rW,d4,v]
  .obtain⟨k,A,l⟩:=vw F.hwh (b.resolve_left v);have S:=F.wl;have z:=ni (n:=n+1) (by lia) (xs:=x) (k:=k) (by lia) (by lia) (.int (s:Int));refine⟨x.set k (.int (s:Int)),by rw [fq];exact hw,fun w h=>?_,?_⟩
   .rcases List.mem_or_eq_of_mem_set h with h | rfl
    .exact i w h
    .exact⟨_,rfl⟩
   .rw [cE,aj];simp [bH,rW,d4,v,H_,l,z]
theorem qW (x:bI) (y:P):∀(n:List bI) (c:List P),n.Nodup->n.length=c.length->∃s a,nT x (.p y) n (c.map .p)=(s,a.map .p)/\s.Nodup/\s.length=a.length/\s.length≤n.length+1/\(∀k ∈ s,k=x\/k ∈ n)/\∀k,bR k s a=if x=k then some y else bR k n c
 | [],[],_,_=>⟨[x],[y],rfl,by simp,rfl,by simp,fun k h=>.inl (by simpa using h),fun k=>by by_cases q:x=k <;> simp [bR,q]⟩
 | [],_::_,_,h=>by simp at h
 | _::_,[],_,h=>by simp at h
 | f::n,v::c,m,l=>by
  obtain⟨t,m⟩:=List.nodup_cons.mp m;by_cases q:f=x
  .refine⟨f::n,y::c,by simp [nT,q],List.nodup_cons.mpr ⟨t,m⟩,by simpa using l,by simp,fun k h=>.inr h,fun k=>?_⟩;subst q;by_cases b:f=k
   .simp [bR,b]
   .simp [bR,b]
  .obtain⟨s,a,e,d,w,g,r,u⟩:=qW x y n c m (by simpa using l);refine⟨f::s,v::a,by simp [nT,q,e],List.nodup_cons.mpr ⟨fun z=>?_,d⟩,by simp [w],by simp;lia,fun k h=>?_,fun k=>?_⟩
   .rcases r f z with z | z
    .exact q z
    .exact t z
   .rcases az.mp h with rfl | h
    .exact .inr List.mem_cons_self
    .rcases r k h with h | h
     .exact .inl h
     .exact .inr (bg _ h)
   .show (if f=k then some v else bR k s a)=_;by_cases b:f=k
    .subst b;have:¬x=f:=fun z=>q z.symm
     simp [bR,this]
    .rw [if_neg b,u];by_cases p:x=k
     .simp [p]
     .simp [p,bR,b]
structure Giv (gk:List bI) (gv:List P):Prop where
 nd:gk.Nodup
 ln:gk.length=gv.length
 le:gk.length≤100
 iv:∀k v,bR k gk gv=some v->o9 v
variable {s:List bI}{f:List P}
theorem Giv.put (h:Giv s f) (l:s.length≤99) (y:bI) (i:Int):∃g x,nT y (.p (.int i)) s (f.map .p)=(g,x.map .p)/\Giv g x/\g.length≤s.length+1:=by
 obtain⟨n,b,e,c,m,r,p,t⟩:=qW y (.int i) s f h.nd h.ln;refine⟨n,b,e,⟨c,m,by lia,fun k v a=>?_⟩,r⟩;rw [t] at a;split at a
 .cases a;exact⟨_,rfl⟩
 .exact h.iv k v a
theorem vF {o:EE}{k v:EV}{L:Lc}{S n:aJ}{j:Nat}{s:List bI}{f:List P}{x:Str}{i:Int} (h:Giv s f) (l:s.length≤99) (q:v L S=some (.int i,n)) (p:o L n=some (.ref j,n)) (t:k L n=some (.str x,n)) (r:n[j]? = some (.dct s (f.map .p))):∃g a,Giv g a/\g.length≤s.length+1/\fm o k v L S=some (.nx,L,n.set j (.dct g (a.map .p))):=by
 obtain⟨g,a,e,c,m⟩:=h.put l (.inr x) i;refine⟨g,a,c,m,?_⟩;have b:oh o k v L S=some (.nx,L,n.set j (.dct g (a.map .p))):=by unfold oh;rw [q,aD,p,aD,t,aD];simp only [jD,r,cg];rw [if_pos ⟨h.nd,by rw [lu];lia⟩,e]
 unfold fm;rw [b]
theorem o6 {k:bI}:∀{s:List bI}{x:List P},xh k s=false->bR k s x=none
 | [],_,_=>by cases ‹List P› <;> rfl
 | _::_,[],_=>rfl
 | a::s,v::x,h=>by unfold xh at h;rw [gE,Bool.or_eq_false_iff] at h;show (if a=k then some v else bR k s x)=none;rw [if_neg (of_decide_eq_false h.1)];exact o6 h.2
noncomputable abbrev eU (x:Str) (m w t:P) (c s:List P) (r:P):P:=.tup [.str x,m,w,t,.lst c,.lst s,r]
theorem sh (a b c d e f g:P):L2.atI [a,b,c,d,e,f,g] 3=some d:=bn (by decide) rfl
theorem Fs (a b c d e f g:P):L2.atI [a,b,c,d,e,f,g] 4=some e:=bn (by decide) rfl
theorem Fq (a b c d e f g:P):L2.atI [a,b,c,d,e,f,g] 5=some f:=bn (by decide) rfl
theorem yc (a b c d e f g:P):L2.atI [a,b,c,d,e,f,g] 6=some g:=bn (by decide) rfl
theorem JG (a b c d e f:P):L2.atI [a,b,c,d,e,f] 2=some c:=bn (by decide) rfl
theorem K9 (a b c d e f:P):L2.atI [a,b,c,d,e,f] 5=some f:=bn (by decide) rfl
theorem D7 (G:Giv s f) (B:o=.dct s (f.map .p)\/o=.fz (.dct s f)) (E:lS c) (m:r[k]? = some z) (F:∃i:Int,i.natAbs≤999/\z=.int i) (T:w.length≤1000) (t p q:Option D) :
  (∃L,aM M J [qp a,qp (.tup r),qp st,qp A,some (.ref 0),t,p,some (.ref 1),qi (k:Int),qp c,q] [o,.lst (w.map .p)]=some (.rt (.p .non),L,[.fz (.dct s f),.lst (w.map .p)])) \/
  ∃i:Int,i.natAbs≤999/\aM M J [qp a,qp (.tup r),qp st,qp A,some (.ref 0),t,p,some (.ref 1),qi (k:Int),qp c,q] [o,.lst (w.map .p)]=some (.nx,[qp a,qp (.tup r),qp st,qp A,some (.ref 0),t,p,some (.ref 1),qi (k:Int),qp c,qi i],[.fz (.dct s f),.lst ((w++[P.int i]).map .p)]):=by
 obtain⟨x,lo,j,u,_,N,O,Q,R,rfl⟩:=E;obtain⟨K,S,rfl⟩:=F;have d:toP 9 (.ref 0) [o,.lst (w.map .p)]=some (.dct s f,[.fz (.dct s f),.lst (w.map .p)]):=by
  rcases B with rfl | rfl
  .have:qD (toP 8) (f.map .p) [SO.dct s (f.map .p),.lst (w.map .p)]=some (f,[SO.dct s (f.map .p),.lst (w.map .p)]):=kA ..;simp [toP,this]
  .rfl
 have I:o9 ((bR (.inr x) s f).getD (.int K)):=by
  cases e:bR (.inr x) s f with
  | none=>exact⟨K,rfl⟩
  | some v=>exact G.iv _ v e
 obtain⟨n,h⟩:=I;have l:w.length≤1000000:=by lia
 cases b:xh (.inr x) s with
 | false=>
  have y:n=K:=by rw [o6 b] at h;exact (P.int.inj h).symm
  right;refine⟨n,by rw [y];exact S,?_⟩;rw [<- cv];simp [aM,d,cg,bw m,h,z7,En,lX,b,dk,l]
 | true=>
  by_cases H:lo≤n/\n≤j
  .right;refine⟨n,by lia,?_⟩;rw [<- cv];simp [aM,d,cg,bw m,h,z7,En,lX,b,dk,l,H.1,H.2]
  .left;refine⟨[qp a,qp (.tup r),qp st,qp A,some (.ref 0),t,p,some (.ref 1),qi (k:Int),qp (.tup [.str x,.int lo,.int j,.int u]),qi n],?_⟩;by_cases g:lo≤n
   .have C:¬n≤j:=fun z=>H ⟨g,z⟩;simp [aM,d,cg,bw m,h,z7,En,lX,b,g,C]
   .simp [aM,d,cg,bw m,h,z7,En,lX,b,g]
theorem wm (v:∀c ∈ r,∃i:Int,i.natAbs≤999/\c=.int i) (G:Giv s f) (u g:Option D):∀{l:List P}{k:Nat},(∀c ∈ l,lS c)->k+l.length=r.length->∀{n:SO},(n=.dct s (f.map .p)\/n=.fz (.dct s f))->∀{w:List P},w.length=k->r.length≤1000->∀(j H q:Option D),
  (∃L S,aZ (aV [ag 8,ag 9]) (aM E C) (bj (k:Int) l) [qp b,qp (.tup r),qp st,qp A,some (.ref 0),u,g,some (.ref 1),j,H,q] [n,.lst (w.map .p)]=some (.rt (.p .non),L,S)) \/
  ∃y m t a o,y.length=l.length/\(∀c ∈ y,∃i:Int,i.natAbs≤999/\c=.int i)/\aZ (aV [ag 8,ag 9]) (aM E C) (bj (k:Int) l) [qp b,qp (.tup r),qp st,qp A,some (.ref 0),u,g,some (.ref 1),j,H,q] [n,.lst (w.map .p)]=some (.nx,[qp b,qp (.tup r),qp st,qp A,some (.ref 0),u,g,some (.ref 1),m,t,a],[o,.lst ((w++y).map .p)])
 | [],k,_,_,n,_,w,_,_,j,H,q=>.inr ⟨[],j,H,q,n,rfl,fun _ h=>(by cases h),by simp [bj,aZ]⟩
 | c::l,k,F,M,n,K,w,Q,N,j,H,q=>by
  simp only [bx] at M;have d:r[k]? = some (r[k]'(by lia)):=dI (by lia);unfold bj;rcases D7 (M:=E) (J:=C) (a:=b) (st:=st) (A:=A) (w:=w) G K (F c List.mem_cons_self) d (v _ (fw _)) (by lia) u g q with ⟨L,e⟩ | ⟨i,J,e⟩
  .exact .inl ⟨_,_,sV rfl e⟩
  .rcases wm (E:=E) (C:=C) (b:=b) (st:=st) (A:=A) v G u g (l:=l) (k:=k+1) (fun x O=>F x (bg _ O)) (by lia) (n:=.fz (.dct s f)) (.inr rfl) (w:=w++[.int i]) (by simp;lia) N (qi (k:Int)) (qp c) (qi i) with ⟨L,S,p⟩ | ⟨y,m,t,a,o,B,I,p⟩
   .rw [ie] at p;exact .inl ⟨L,S,(bC rfl e).trans p⟩
   .rw [ie] at p;refine .inr ⟨.int i::y,m,t,a,o,by simp [B],fun z d=>?_,?_⟩
    .rcases az.mp d with rfl | d
     .exact⟨i,J,rfl⟩
     .exact I z d
    .rw [show w++.int i::y=w++[.int i]++y by simp];exact (bC rfl e).trans p
theorem G6 {T t:List P}{R:Str}{F:P} (Q:ll R T t F) {K:List bI}{V:List P} (N:kO (more F) K V) {s:List bI}{f:List P} (G:Giv s f) (O:s.length≤99) (h p z A r:P) (x:Str) (c H:List P) (d u j l y q:Option D) :
  ∃g b,Giv g b/\eO (gX (bV (aH dm (eV (ab am (vv 2) (vi 3))) (eV (vC (.non))))) (bV (aH mN (eV (ab am (ab am (vv 2) (vi 3)) (vi 2))) (eV (vt ""))))) (fm (aa 4) (ab am (ab am (vv 2) (vi 3)) (vi 2)) (ab am (vv 3) (vt "it"))) eW [qp h,qp p,qp (eU x z A F c H r),qp (.dct K V),some (.ref 0),d,u,j,l,y,q] [.dct s (f.map .p)]=some (.nx,[qp h,qp p,qp (eU x z A F c H r),qp (.dct K V),some (.ref 0),d,u,j,l,y,q],[.dct g (b.map .p)]):=by
 rcases Q with rfl | ⟨m,a,n,w,_,_,_,_,_,_,rfl⟩
 .exact⟨s,f,G,by simp [sh,dm,d4]⟩
 .by_cases E:n=""
  .exact⟨s,f,G,by simp [sh,dm,d4,E]⟩
  .obtain⟨i,_,I⟩:=N "it" (by simp [more]);obtain⟨B,C,J,U,e⟩:=vF (o:=aa 4) (k:=ab am (ab am (vv 2) (vi 3)) (vi 2)) (v:=ab am (vv 3) (vt "it")) (L:=[qp h,qp p,qp (eU x z A (.tup [.str m,.str a,.str n,.str w]) c H r),qp (.dct K V),some (.ref 0),d,u,j,l,y,q]) (S:=[.dct s (f.map .p)]) G O (i:=i) (n:=[.dct s (f.map .p)]) (x:=n) (by simp [I]) rfl (by simp [sh]) rfl;refine⟨B,C,J,?_⟩;rw [j6];have M:(gX (bV (aH dm (eV (ab am (vv 2) (vi 3))) (eV (vC (.non))))) (bV (aH mN (eV (ab am (ab am (vv 2) (vi 3)) (vi 2))) (eV (vt ""))))) [qp h,qp p,qp (eU x z A (.tup [.str m,.str a,.str n,.str w]) c H r),qp (.dct K V),some (.ref 0),d,u,j,l,y,q] [.dct s (f.map .p)]=some (true,[.dct s (f.map .p)]):=by simp [sh,dm,d4,E]
   rw [M];exact e
theorem G5 {n:Nat} (hn:6≤n) {rs:List P}{z:Str}{q:Nat}{m c a p:List P} (U:Fam rs z q m c a p) {N:List P} (hc:CellsOk c N) {x:Str}{G J l:P}{d I:List P}{u:P} (Y:Stp z m c a rs G J l d I u) {K:List bI}{V:List P} (he:kO (o1 c++more l) K V) :
  ∃j:P,(j=.non\/∃H,CellsOk c H/\j=.tup H)/\pureOf (Ph n "cells_behind") [eS z q m c a p,.tup N,eU x G J l d I u,.dct K V]=some j:=by
 obtain⟨n,rfl⟩:=fV (n:=n) (by first | assumption | lia);have hN:∀x ∈ o1 c++more l,kj x:=fun x hx=>(dL.mp hx).elim (qy U.hce.1 x) (qA l x);have hcl:=Y.cl;have hc3:=U.cl;have hcn:=hc.1;let A:List (Option D):=[qp (eS z q m c a p),qp (.tup N),qp (eU x G J l d I u),qp (.dct K V),some (.ref 0)]
 let Inv:Nat->Lc->aJ->Prop:=fun i L S=>∃(s:List bI) (f:List P) (C E:Option D),Giv s f/\s.length≤i/\L=A++[C,E,none,none,none,none]/\S=[.dct s (f.map .p)]
 obtain⟨L',S',O,s,f,C,E,W,Z,rfl,rfl⟩:=bb (g:=aV [ag 5,ag 6]) (b:=d8 (Ph (n+1)) (Ph n)) (Inv:=Inv) (s:=d) (k:=0) (L:=A++[none,none,none,none,none,none]) (S:=[.dct [] []]) (fun i v L S hv hI=>by obtain⟨s,f,C,E,W,Z,rfl,rfl⟩:=hI;have hi:=ba hv;obtain⟨y,t,_,ht,rfl⟩:=Y.ch v (bA hv);obtain⟨r,er⟩:=m5 hN he ht (n:=n+1) (by lia);obtain⟨Q,R,T,h2,e⟩:=vF (o:=aa 4) (k:=vv 5) (v:=af (pureOf (Ph (n+1) "value_of")) (v2 (vv 6) (vv 3))) (L:=A++[qs y,qp t,none,none,none,none]) (S:=[.dct s (f.map .p)]) W (by lia) (i:=r) (n:=[.dct s (f.map .p)]) (by simp [A,er]) rfl rfl rfl;exact⟨_,_,_,rfl,e,Q,R,_,_,T,by lia,rfl,rfl⟩) ⟨[],[],none,none,⟨by simp,rfl,by simp,fun k v h=>by cases h⟩,by simp,rfl,rfl⟩
 simp only [A,pW,fX] at O;obtain⟨gk2,gv2,X,e2⟩:=G6 Y.htk (fun x hx=>he x (fY _ hx)) W (by lia) (eS z q m c a p) (.tup N) G J u x d I C E none none none none;have B:=wm (E:=Ph (n+1)) (C:=Ph n) (b:=eS z q m c a p) (st:=eU x G J l d I u) (A:=.dct K V) hc.2 X C E (l:=c) (k:=0) U.hce.1 (by lia) (.inl rfl) (w:=[]) rfl (by lia) none none none;rw [show ((0:Nat):Int)=0 from rfl] at B;rcases B with ⟨L',S',F⟩ | ⟨M,q8',q9',q10',o,T,h2,F⟩
 .refine⟨.non,.inl rfl,?_⟩;rw [dc,aj];simp only [fW] at F;simp [-j6,bO,lU,Fs,O,e2,Ea,F]
 .refine⟨.tup M,.inr ⟨M,⟨T,h2⟩,rfl⟩,?_⟩;rw [dc,aj];simp only [fW,fX] at F;have t1:toP 9 (.ref 1) [o,.lst (M.map .p)]=some (.lst M,[o,.fz (.lst M)]):=eB rfl;simp [-j6,bO,lU,Fs,O,e2,Ea,F,t1,bK]
end My
namespace My
open PySem L2 Ev
noncomputable def lQ (B:BD) (t:Nat) (y:P):Prop:=∃s r,y=.tup [.tup s,.tup r]/\s.length≤t/\(∀a ∈ s,o9 a)/\b9 B r
structure GS (B:BD) (K:List bI) (V:List P) extends GC B where
 kv:Nat
 hkv:b≤kv
 hk:S0[kv]? = some (.fz (.dct K V))
noncomputable abbrev FL (i k r:Nat) (hd t m l:P) (d f b c q h:Option D) (x a e s n:Option D):Lc:=[some (.ref i),qp hd,qp t,some (.ref k),qp m,qp l,d,f,b,c,q,h,some (.ref r),x,a,e,s,n]
theorem KN {B:BD} (I:Pln B.fams B.roads B.wishes) (s:Places B) {n:Nat} (Y:3≤n) {K:List bI}{V:List P} (hd v:Int) {m:Str} (hm:PyData.strOk m=true) {t:Nat} (ht:t≤10) {k:List P} (has:k.length≤t) (T:∀a ∈ k,o9 a) {r:List P} (hr:b9 B r) (C A l:P) (o H F q:Option D) {y:P} (hy:B0 y) :
  ∃Z:List P,Z.length≤1/\(∀z ∈ Z,lQ B (t+1) z)/\∀(G:GS B K V) (L:Lc) (S:aJ) (c:List P),(∃d i j x,L=FL G.i G.kv G.r (.int hd) C A l d o H F q (qp (.tup [.str m,.int v])) (qp (.tup k)) (qp (.tup r)) i j x)->Fr G.b G.S0 S->S[G.r]? = some (.lst (c.map .p))->c.length+1≤1000 ->
   ∃L1 L2 w,aV [ag 15,ag 16] y L=some L1/\eF (Ph n) (Ph (n-1)) L1 S=some (.nx,L2,w)/\(∃d i j x,L2=FL G.i G.kv G.r (.int hd) C A l d o H F q (qp (.tup [.str m,.int v])) (qp (.tup k)) (qp (.tup r)) i j x)/\Fr G.b G.S0 w/\w[G.r]? = some (.lst ((c++Z).map .p)):=by
 obtain⟨f,E,rfl,hbl,U,X⟩:=hy;obtain⟨ans,Q,ep⟩:=AK I s Y hd v hm X hr;have N:=gD (xs:=k) (m:=f) (by lia);rcases Q with rfl | ⟨p,W,rfl⟩
 .refine⟨[],by simp,fun _ h=>(by cases h),fun G L S c J O R hM=>?_⟩;obtain⟨d,i,j,x,rfl⟩:=J;obtain⟨w,e,u⟩:=zQ (b:=G.b) (g:=Ph n "posted") (q:=ac (aa 0) (ac (aa 14) (ac (aa 1) (ac (aa 16) (ac (aa 11) bf))))) (L:=FL G.i G.kv G.r (.int hd) C A l d o H F q (qp (.tup [.str m,.int v])) (qp (.tup k)) (qp (.tup r)) (qp (.tup f)) (ql E) x) (S:=S) (l:=[.ref G.i,.p (.tup r),.p (.int hd),.p (.lst E),.p (.tup [.str m,.int v])]) rfl (ep G.b G.i S (G.bd.fr O)) (Fr.refl _ _);refine⟨FL G.i G.kv G.r (.int hd) C A l d o H F q (qp (.tup [.str m,.int v])) (qp (.tup k)) (qp (.tup r)) (qp (.tup f)) (ql E) x,FL G.i G.kv G.r (.int hd) C A l d o H F q (qp (.tup [.str m,.int v])) (qp (.tup k)) (qp (.tup r)) (qp (.tup f)) (ql E) (qp .non),w,rfl,?_,⟨_,_,_,_,rfl⟩,O.trans u,?_⟩
  .refine (al (e:=FL G.i G.kv G.r (.int hd) C A l d o H F q (qp (.tup [.str m,.int v])) (qp (.tup k)) (qp (.tup r)) (qp (.tup f)) (ql E) (qp .non)) (b:=w) ?_).trans ?_
   .rw [dW,o_,e];rfl
   .simp [dm,d4]
  .rw [List.append_nil];exact u.hi _ _ (aU G.le G.hr) R
 .refine⟨[.tup [.tup (k++f),.tup p]],by simp,fun z hz=>⟨k++f,p,by simpa using hz,by rw [cO];lia,fun a ha=>(dL.mp ha).elim (T a) (U a),W⟩,fun G L S c J O R hM=>?_⟩;obtain⟨d,i,j,x,rfl⟩:=J;obtain⟨w,e,u⟩:=zQ (b:=G.b) (g:=Ph n "posted") (q:=ac (aa 0) (ac (aa 14) (ac (aa 1) (ac (aa 16) (ac (aa 11) bf))))) (L:=FL G.i G.kv G.r (.int hd) C A l d o H F q (qp (.tup [.str m,.int v])) (qp (.tup k)) (qp (.tup r)) (qp (.tup f)) (ql E) x) (S:=S) (l:=[.ref G.i,.p (.tup r),.p (.int hd),.p (.lst E),.p (.tup [.str m,.int v])]) rfl (ep G.b G.i S (G.bd.fr O)) (Fr.refl _ _);have M:=u.hi _ _ (aU G.le G.hr) R;refine⟨FL G.i G.kv G.r (.int hd) C A l d o H F q (qp (.tup [.str m,.int v])) (qp (.tup k)) (qp (.tup r)) (qp (.tup f)) (ql E) x,FL G.i G.kv G.r (.int hd) C A l d o H F q (qp (.tup [.str m,.int v])) (qp (.tup k)) (qp (.tup r)) (qp (.tup f)) (ql E) (qp (.tup p)),w.set G.r (.lst ((c++[P.tup [.tup (k++f),.tup p]]).map .p)),rfl,?_,⟨_,_,_,_,rfl⟩,(O.trans u).set G.le G.hr _,hU M⟩;refine (al (e:=FL G.i G.kv G.r (.int hd) C A l d o H F q (qp (.tup [.str m,.int v])) (qp (.tup k)) (qp (.tup r)) (qp (.tup f)) (ql E) (qp (.tup p))) (b:=w) ?_).trans ?_
  .rw [dW,o_,e];rfl
  .rw [j6];have hc:(bV (aH dm (aa 17) (eV (vC .non)))) (FL G.i G.kv G.r (.int hd) C A l d o H F q (qp (.tup [.str m,.int v])) (qp (.tup k)) (qp (.tup r)) (qp (.tup f)) (ql E) (qp (.tup p))) w=some (true,w):=by simp [dm,d4]
   rw [hc,aD,if_pos rfl];exact iQ rfl M (by simp [N]) M (by lia)
theorem KL {B:BD} (I:Pln B.fams B.roads B.wishes) (s:Places B) {n:Nat} (Y:4≤n) {K:List bI}{V:List P}{hd:Nat}{O:Str}{C:Nat}{o p A H:List P} (J:Fam B.roads O C o p A H) (T:(aB B.fams)[hd]? = some (eS O C o p A H)) {l:List P} (hw:l.length=A.length) (U:∀w ∈ l,o9 w) {a h:Str}
  (hc:(a="who"/\P.str h ∈ A)\/((a="all"\/a="any")/\∃r ∈ B.roads,rA r=O/\h=rB r)) (v:Int) {m:Str} (hm:PyData.strOk m=true) {t:Nat} (ht:t≤10) (N E:P) (j F:Option D) {W:List P} (hW:∀y ∈ W,lQ B t y) :
  ∃ys:List P,ys.length≤4 * W.length/\(∀z ∈ ys,lQ B (t+1) z)/\∀(G:GS B K V) (L:Lc) (S:aJ) (u:List P),(∃i f d q e k,L=FL G.i G.kv G.r (.int (hd:Int)) N E (.tup l) i j F (qs a) (qs h) (qp (.tup [.str m,.int v])) f d q e k)->Fr G.b G.S0 S->S[G.r]? = some (.lst (u.map .p))->u.length+4 * W.length≤1000 ->
   ∃L' R,aZ (aV [ag 13,ag 14]) (eE (Ph n) (Ph (n-1))) W L S=some (.nx,L',R)/\(∃i f d q e k,L'=FL G.i G.kv G.r (.int (hd:Int)) N E (.tup l) i j F (qs a) (qs h) (qp (.tup [.str m,.int v])) f d q e k)/\Fr G.b G.S0 R/\R[G.r]? = some (.lst ((u++ys).map .p)):=by
 obtain⟨tg,h1,h2,h3⟩:=tg_ok I Y J T hw U hc;refine eP (q:=GS B K V) (c:=4) (M:=1000) (Sp:=fun G S=>Fr G.b G.S0 S) (r:=fun G=>G.r) (Q:=lQ B (t+1)) (p:=fun G L=>∃i f d q e k,L=FL G.i G.kv G.r (.int (hd:Int)) N E (.tup l) i j F (qs a) (qs h) (qp (.tup [.str m,.int v])) f d q e k) (fun x hx=>?_);obtain⟨as,rs,rfl,ha1,ha2,hr⟩:=hW x hx;obtain⟨ys,k1,k2,k3⟩:=eP (q:=GS B K V) (c:=1) (M:=1000) (g:=aV [ag 15,ag 16]) (b:=eF (Ph n) (Ph (n-1))) (e:=tg) (Sp:=fun G S=>Fr G.b G.S0 S) (r:=fun G=>G.r) (Q:=lQ B (t+1)) (p:=fun G L=>∃i q e k,L=FL G.i G.kv G.r (.int (hd:Int)) N E (.tup l) i j F (qs a) (qs h) (qp (.tup [.str m,.int v])) (qp (.tup as)) (qp (.tup rs)) q e k)
  (fun y hy=>KN I s (by lia) (hd:Int) v hm ht ha1 ha2 hr N E (.tup l) j F (qs a) (qs h) (h2 y hy))
 refine⟨ys,by lia,k2,fun G L S u hLp fr hS hM=>?_⟩;obtain⟨i,f,d,q,e,k,rfl⟩:=hLp;obtain⟨S1,e1,fr1⟩:=h3 G.b G.i S (G.bd.fr fr);obtain⟨S2,e2,X⟩:=zQ (b:=G.b) (g:=Ph n "targets_of") (q:=ac (aa 0) (ac (aa 1) (ac (aa 9) (ac (aa 10) (ac (aa 5) bf))))) (L:=FL G.i G.kv G.r (.int (hd:Int)) N E (.tup l) i j F (qs a) (qs h) (qp (.tup [.str m,.int v])) (qp (.tup as)) (qp (.tup rs)) q e k) (S:=S) (l:=[.ref G.i,.p (.int (hd:Int)),.p (.str a),.p (.str h),.p (.tup l)]) rfl e1 fr1;obtain⟨L',R,e3,hL',fr3,h4⟩:=k3 G _ S2 u ⟨i,q,e,k,rfl⟩ (fr.trans X) (X.hi _ _ (aU G.le G.hr) hS) (by lia);obtain⟨d6',Z,q16',q17',rfl⟩:=hL';refine⟨FL G.i G.kv G.r (.int (hd:Int)) N E (.tup l) i j F (qs a) (qs h) (qp (.tup [.str m,.int v])) (qp (.tup as)) (qp (.tup rs)) q e k,FL G.i G.kv G.r (.int (hd:Int)) N E (.tup l) d6' j F (qs a) (qs h) (qp (.tup [.str m,.int v])) (qp (.tup as)) (qp (.tup rs)) Z q16' q17',R,rfl,?_,⟨_,_,_,_,_,_,rfl⟩,fr3,h4⟩;unfold eE;rw [bS,gO,e2];exact e3
theorem x8 (r:Fr b x S) (e:b≤x.length) (h:lJ x S d W):∃a,toP 9 d (S++[.lst []])=some (.lst W,a)/\Fr b x a/\a[S.length]? = some (.lst []):=by
 have f:=r.trans (Fr.app b S [.lst []]);rcases h with rfl | ⟨k,s,rfl,h⟩
 .exact⟨_,by simp,f,gB _ _⟩
 .have l:=h.lt;refine⟨_,(h.fr (Fr.app b S [.lst []])).frz,f.set e s _,?_⟩;rw [bt (by lia)];exact gB _ _
section
variable {B:BD} (I:Pln B.fams B.roads B.wishes) (s:Places B) {n:Nat} (Y:5≤n) {K:List bI}{V:List P}{hd:Nat}{O:Str}{C:Nat}{o p A H:List P} (J:Fam B.roads O C o p A H) (T:(aB B.fams)[hd]? = some (eS O C o p A H)) {l:List P} (hw:l.length=A.length) (U:∀w ∈ l,o9 w) {N:List P} (q:∀x ∈ N,kj x) (a:kO N K V)
include I s Y J T hw U q a
theorem J0 (h R:P):∀{H:List P},(∀c ∈ H,nA O B.roads A N c)->∀{t:Nat},t+H.length≤10->∀{W:List P},(∀y ∈ W,lQ B t y)->4 ^ H.length * W.length≤900 ->
  ∃ys:List P,ys.length≤4 ^ H.length * W.length/\(∀y ∈ ys,lQ B (t+H.length) y)/\∀(b i:Nat) (z S:aJ) (w:Nat) (o:D) (q7 q8 q9 Z F j e k f p d:Option D),Bd B b i z->b≤w->z[w]? = some (.fz (.dct K V))->Fr b z S->lJ z S o W ->
   ∃L' S' d',aZ (aV [ag 7,ag 8,ag 9,ag 10]) (eD (Ph n) (Ph (n-1))) H [some (.ref i),qi (hd:Int),qp h,some (.ref w),qp R,qp (.tup l),some o,q7,q8,q9,Z,F,j,e,k,f,p,d] S=some (.nx,L',S')/\L'[6]? = some (some d')/\Fr b z S'/\lJ z S' d' ys
 | [],_,t,_,W,hW,_=>⟨W,by simp,by simpa using hW,fun b i z S w o q7 q8 q9 Z F j e k f p d _ _ _ fr ha=>⟨_,S,o,rfl,rfl,fr,ha⟩⟩
 | c::H,E,t,ht,W,hW,X=>by
  simp only [bx] at ht;rw [bx,Nat.pow_succ,Nat.mul_assoc] at X;have h4:4 * W.length≤900:=aU (Nat.le_mul_of_pos_left _ (Nat.pow_pos (by decide))) X;obtain⟨m,tr,g,u,hm,_,hsum,hcw,rfl⟩:=E c List.mem_cons_self;obtain⟨v,ev⟩:=m5 q a hsum (n:=n) (by lia);obtain⟨ys,h1,h2,h3⟩:=KL I s (n:=n) (by lia) (K:=K) (V:=V) J T hw U hcw v hm (t:=t) (by lia) h R (qs m) (qp tr) hW;obtain⟨zs,k1,k2,k3⟩:=J0 h R (H:=H) (fun x hx=>E x (bg _ hx)) (t:=t+1) (by lia) (W:=ys) h2 (aU (Nat.mul_le_mul_left _ h1) X);refine⟨zs,?_,fun y hy=>by rw [bx,show t+(H.length+1)=t+1+H.length by lia];exact k2 y hy,fun b i z S w o q7 q8 q9 Z F j e k f p d hB Y hk fr ha=>?_⟩
  .rw [bx,Nat.pow_succ,Nat.mul_assoc];exact aU k1 (Nat.mul_le_mul_left _ h1)
  .obtain⟨S1,e1,fr1,hS1⟩:=x8 fr hB.le ha;obtain⟨L2,S2,e2,⟨d6',C,G,L,M,Q,rfl⟩,fr2,hS2⟩:=h3 { b:=b,i:=i,S0:=z,r:=S.length,bd:=hB,hr:=fr.len,kv:=w,hkv:=Y,hk:=hk } (FL i w S.length (.int (hd:Int)) h R (.tup l) (some o) (qs m) (qp tr) (qs g) (qs u) (qp (.tup [.str m,.int v])) e k f p d) S1 [] ⟨_,_,_,_,_,_,rfl⟩ fr1 hS1 (by simp;lia);obtain⟨L',S',d',e3,h5,fr3,ha3⟩:=k3 b i z S2 w (.ref S.length) (qs m) (qp tr) (qs g) (qs u) (qp (.tup [.str m,.int v])) (some (.ref S.length)) C G L M Q hB Y hk fr2 (.inr ⟨S.length,fr.len,rfl,.inl hS2⟩);refine⟨L',S',d',?_,h5,fr3,ha3⟩;refine (bC (s:=[some (.ref i),qi (hd:Int),qp h,some (.ref w),qp R,qp (.tup l),some o,qs m,qp tr,qs g,qs u,F,j,e,k,f,p,d]) rfl ?_).trans e3;have tv:toP 9 (.ref w) S=some (.dct K V,S):=by
    have:=fr.hi _ _ Y hk;simp [toP,this]
   unfold eD;refine (al (e:=[some (.ref i),qi (hd:Int),qp h,some (.ref w),qp R,qp (.tup l),some o,qs m,qp tr,qs g,qs u,qp (.tup [.str m,.int v]),j,e,k,f,p,d]) (b:=S) ?_).trans ?_
   .simp [tv,ev]
   refine (al (e:=FL i w S.length (.int (hd:Int)) h R (.tup l) (some o) (qs m) (qp tr) (qs g) (qs u) (qp (.tup [.str m,.int v])) e k f p d) (b:=S++[.lst []]) ?_).trans ?_
   .simp
   refine (al (e:=FL i w S.length (.int (hd:Int)) h R (.tup l) d6' (qs m) (qp tr) (qs g) (qs u) (qp (.tup [.str m,.int v])) C G L M Q) (b:=S2) ?_).trans ?_
   .rw [bS,gO];show aL (aL (toP 9 o (S++[.lst []])) _) _=_;rw [e1];exact e2
   .rfl
theorem Fx (E:∀c ∈ m,nA O B.roads A N c) (r:m.length≤3) (L:b9 B u) :
  ∃f:List P,f.length≤64/\(∀y ∈ f,lQ B 3 y)/\∀(b i:Nat) (S:aJ) (k:Nat),Bd B b i S->b≤k->S[k]? = some (.fz (.dct K V)) ->
   ∃d x,Ph (n+1) "sendings" [.ref i,.p (.int (hd:Int)),.p (.lst m),.ref k,.p (.tup u),.p (.tup l)] S=some (d,x)/\Fr b S x/\lJ S x d f:=by
 have Z:4 ^ m.length≤64:=by have:=Nat.pow_le_pow_right (show 0 < 4 by decide) r;simpa using this
 obtain⟨f,z,o,H⟩:=J0 I s Y J T hw U q a (.lst m) (.tup u) E (t:=0) (by lia) (W:=[.tup [.tup [],.tup u]]) (fun y p=>⟨[],u,by simpa using p,by simp,fun _ h=>(by cases h),L⟩) (by simp;lia);simp only [List.length_singleton,Nat.mul_one] at z;refine⟨f,by lia,fun y p=>?_,fun b i S k C v G=>?_⟩
 .obtain⟨w,R,e,k1,M,Q⟩:=o y p;exact⟨w,R,e,by lia,M,Q⟩
 .obtain⟨X,x,g,e,F,j,D⟩:=H b i S S k (.p (.lst [.tup [.tup [],.tup u]])) none none none none none none none none none none none C v G (Fr.refl _ _) (.inl rfl);refine⟨g,x,?_,j,D⟩;obtain⟨n,rfl⟩:=K' (n:=n) (by first | assumption | lia);rw [gu];simp only [j1] at e;simp [cH,dX,e,F]
end
noncomputable def vc (f x:P):Prop:=∃O C o p A H,f=eS O C o p A H/\∃(r:Nat) (c l:List P),x=.tup [.int (r:Int),.tup c,.tup l]/\r < o.length/\CellsOk p c/\l.length=A.length/\∀w ∈ l,o9 w
structure StL (B:BD) (hs rds:List P):Prop where
 hl:hs.length=(aB B.fams).length
 hh:∀(k:Nat) f x,(aB B.fams)[k]? = some f->hs[k]? = some x->vc f x
 hr:b9 B rds
noncomputable def BE (B:BD) (st:P):Prop:=∃E u,st=.tup [.tup E,.tup u]/\StL B E u
noncomputable def lm (w:Str) (q:Int->Prop) (d:P):Prop:=∃k x h,d=.tup (.str w::.int k::x::h)/\q k/\((∃s,x=.str s)\/∃i,x=.int i)/\∀y ∈ P.str w::.int k::x::h,dq 2 y=true
noncomputable def jM (w:Str) (q:Int->Prop) (y:P):Prop:=∃d st,y=.tup [d,st]/\lm w q d
noncomputable abbrev SL (i:Nat) (st hd step y f r:P) (n k b q h x a e s:Option D):Lc:=[some (.ref i),qp st,qp hd,qp step,qp y,qp f,qp r,n,k,b,q,h,x,a,e,s]
theorem DZ {p:List P}{K:List bI}{V:List P} (a:kO (o1 p) K V) {n:List bI}{f:List P}{z:Int} (c:z.natAbs≤999) (h:∀k,bR k n f=if (.inr "it":bI)=k then some (.int z) else bR k K V):kO (o1 p++[.str "it"]) n f:=fun x s=>by
 by_cases q:("it":Str)=x
 .exact⟨z,c,by rw [h,if_pos (by rw [q])]⟩
 .rcases dL.mp s with s | s
  .obtain⟨i,b,e⟩:=a x s;exact⟨i,b,by rw [h,if_neg fun w=>q (i4 w)];exact e⟩
  .exact absurd (P.str.inj (j0.mp s)).symm q
variable {B:BD}{n:Nat}{hd:Nat}{u:List P}
theorem Fw (I:Pln B.fams B.roads B.wishes) (Y:2≤n) (J:Fam B.roads O C o p A H) (T:CellsOk p d) (X:b9 B u) (ht:ll O B.roads A tk) (hy:(tk=.non/\y=.non)\/(tk≠.non/\tY B u hd y)) :
  ∃(K:List bI) (V E:List P),kO (o1 p++more tk) K V/\b9 B E/\∀(b i:Nat) (S:aJ) (st step f r:P) (g j t q x a c:Option D),Bd B b i S->∃R,
   eO (bV (aH dm (aa 4) (eV (vC (.non))))) (ae (ao 11 (uU (dP (aT Att) (aa 0) "places") (v2 (ab am (vv 4) (vi 0)) (vv 2))))
    (ae (fm (aa 10) (vt "it") (ab am (ab am (ab am (vv 9) (vv 11)) (ab am (vv 4) (vi 1))) (vi 1)))
    (ao 9 (eV (af (pureOf (Ph n "replaced")) (v3 (vv 9) (vv 11) (af (pureOf (Ph n "without")) (v2 (ab am (vv 9) (vv 11)) (ab am (vv 4) (vi 1)))))))))) eW
    (SL i st (.int (hd:Int)) step y f r g j (qp (.tup u)) (some (.ref S.length)) t q x a c) (S++[.dct (cP p) (d.map .p)])=some (.nx,SL i st (.int (hd:Int)) step y f r g j (qp (.tup E)) (some (.ref S.length)) R q x a c,S++[.dct K (V.map .p)]):=by
 have F:=qE T;rcases hy with ⟨rfl,rfl⟩ | ⟨Q,s,v,k,G,rfl,hg,hk,N,w,Z⟩
 .exact⟨cP p,d,u,by simpa [more] using F,X,fun b i S st step f r g j t q x a c hB=>⟨t,by simp [dm,d4]⟩⟩
 .have hm:more tk=[.str "it"]:=by
   cases tk with
   | non=>exact absurd rfl Q
   | _=>rfl
  have hls3:=w.1;have L:G[v]? = some G[v]:=dI Z;obtain⟨m,z,_,hz,hzl⟩:=w.2 G[v] (fw _);rw [hzl] at L;have W:(cP p).length=d.length:=by rw [T.1];simp [cP]
  obtain⟨K,V,e,h1,h2,h3,h4,h5⟩:=qW (.inr "it") (.int z) (cP p) d (ji J.hce) W;have ew:=BI Y (xs:=G) (k:=v) (by lia);have hpl:=nY I;have hrl:=X.1;have er:=ni Y (xs:=u) (k:=k) hk (by lia) (.tup (G.eraseIdx v));have hcl:=J.cl;have M:(cP p).length≤1000000:=by have:=T.1;lia
  refine⟨K,V,u.set k (.tup (G.eraseIdx v)),by rw [hm];exact DZ F hz h5,X.set k ⟨aU (List.length_eraseIdx_le ..) w.1,fun l h=>w.2 l (List.mem_of_mem_eraseIdx h)⟩,fun b i S st step f r g j t q x a c hB=>⟨qi (k:Int),?_⟩⟩;obtain⟨jh,jp,jl,jm,mk,mv,h⟩:=hB.fr (Fr.app b S [.dct (cP p) (d.map .p)]);rw [j6];have U:(bV (aH dm (aa 4) (eV (vC (.non))))) (SL i st (.int (hd:Int)) step (.tup [.int (s:Int),.int (v:Int)]) f r g j (qp (.tup u)) (some (.ref S.length)) t q x a c) (S++[.dct (cP p) (d.map .p)])=some (true,S++[.dct (cP p) (d.map .p)]):=by simp [dm,d4]
  rw [U,aD,if_pos rfl];refine (al (e:=SL i st (.int (hd:Int)) step (.tup [.int (s:Int),.int (v:Int)]) f r g j (qp (.tup u)) (some (.ref S.length)) (qi (k:Int)) q x a c) (b:=S++[.dct (cP p) (d.map .p)]) ?_).trans ?_
  .rw [dW,wb,h.places rfl];simp [iB,h.pl,cw,cg,hg]
  refine (al (e:=SL i st (.int (hd:Int)) step (.tup [.int (s:Int),.int (v:Int)]) f r g j (qp (.tup u)) (some (.ref S.length)) (qi (k:Int)) q x a c) (b:=S++[.dct K (V.map .p)]) ?_).trans ?_
  .have e2:oh (aa 10) (vt "it") (ab am (ab am (ab am (vv 9) (vv 11)) (ab am (vv 4) (vi 1))) (vi 1)) (SL i st (.int (hd:Int)) step (.tup [.int (s:Int),.int (v:Int)]) f r g j (qp (.tup u)) (some (.ref S.length)) (qi (k:Int)) q x a c) (S++[.dct (cP p) (d.map .p)])=some (.nx,SL i st (.int (hd:Int)) step (.tup [.int (s:Int),.int (v:Int)]) f r g j (qp (.tup u)) (some (.ref S.length)) (qi (k:Int)) q x a c,S++[.dct K (V.map .p)]):=by
    simp [oh,bw N,bw L,jD,cg,ji J.hce,M,e]
   unfold fm;rw [e2]
  .simp [bw N,ew,er]
variable {E:List P}
theorem Fv (I:Pln B.fams B.roads B.wishes) (s:Places B) (Y:8≤n) (J:Fam B.roads O C o p A H) (T:(aB B.fams)[hd]? = some (eS O C o p A H)) (hS:StL B E u) (hx:PyData.strOk x=true) (hSt:Stp O o p A B.roads rm wh tk chg sn rm2) (hy:(tk=.non/\y=.non)\/(tk≠.non/\tY B u hd y)) :
  ∃ys:List P,ys.length≤64/\(∀z ∈ ys,jM "step" (·=(hd:Int)) z)/\∀(b i:Nat) (S:aJ),Bd B b i S->∃d S',Ph n "step_ends" [.ref i,.p (.tup [.tup E,.tup u]),.p (.int (hd:Int)),.p (eU x rm wh tk chg sn rm2),.p y] S=some (d,S')/\Fr b S S'/\lJ S S' d ys:=by
 obtain⟨n,rfl⟩:=fV (n:=n) (by first | assumption | lia);have hhd:hd < E.length:=by rw [hS.hl];exact ba T
 have hhx:E[hd]? = some E[hd]:=dI hhd;obtain⟨_,_,_,_,_,_,hfe,r,cs,l,hxe,hr1,hcs,hwl,U⟩:=hS.hh hd _ _ T hhx;rw [hxe] at hhx;obtain⟨rfl,hce,rfl,rfl,rfl,rfl⟩:O=_/\C=_/\o=_/\p=_/\A=_/\H=_:=by simp only [P.tup.injEq,mG,P.str.injEq,P.int.injEq,P.lst.injEq,and_true] at hfe;obtain⟨m,b,c,d,e,f⟩:=hfe;exact⟨m,Int.ofNat.inj b,c,d,e,f⟩
 subst hce;obtain⟨K,V,F,a,hr',eit⟩:=Fw I (n:=n+1) (by lia) J hcs hS.hr hSt.htk hy;obtain⟨ans,hans,ecb⟩:=G5 (n:=n+1) (by lia) J hcs (x:=x) hSt a;have hy2:(tk=.non/\y=.non)\/(tk≠.non/\zg y):=by
  rcases hy with h | ⟨h1,t,sp,_,_,e,_⟩
  .exact .inl h
  .exact .inr ⟨h1,t,sp,e⟩
 obtain⟨X,hwl',hwi',ewb⟩:=E5 (n:=n+1) (by lia) J hwl U hSt.htk hy2;have q:∀x ∈ o1 p++more tk,kj x:=fun x hx=>(dL.mp hx).elim (qy J.hce.1 x) (qA tk x);obtain⟨W,hW1,hW2,esd⟩:=Fx I s (n:=n) (by lia) J T hwl' hwi' q a hSt.hsn hSt.sl hr';let st:P:=.tup [.tup E,.tup u]
 let step:P:=eU x rm wh tk chg sn rm2
 let v:P:=eS O C o p A H
 have pre:∀(b i:Nat) (S:aJ),Bd B b i S->∃N,∀g:ES,(ae (ao 5 (dG (mT Tb (Ph (n+1))) (aa 0) "family_of" (ac (aa 2) bf)))
   (ae (qo (aV [ag 6,ag 7,ag 8]) (ab am (ab am (vv 1) (vi 0)) (vv 2)))
   (ae (ao 9 (eV (ab am (vv 1) (vi 1))))
   (ae (ao 10 (fC (Ph (n+1) "values_of") (ac (aa 5) (ac (aa 7) bf))))
   (ae (eO (bV (aH dm (aa 4) (eV (vC (.non))))) (ae (ao 11 (uU (dP (aT Att) (aa 0) "places") (v2 (ab am (vv 4) (vi 0)) (vv 2))))
    (ae (fm (aa 10) (vt "it") (ab am (ab am (ab am (vv 9) (vv 11)) (ab am (vv 4) (vi 1))) (vi 1)))
    (ao 9 (eV (af (pureOf (Ph (n+1) "replaced")) (v3 (vv 9) (vv 11) (af (pureOf (Ph (n+1) "without")) (v2 (ab am (vv 9) (vv 11)) (ab am (vv 4) (vi 1)))))))))) eW) g)))))
   [some (.ref i),qp st,qi (hd:Int),qp step,qp y,none,none,none,none,none,none,none,none,none,none,none] S=g (SL i st (.int (hd:Int)) step y v (.int (r:Int)) (qp (.tup cs)) (qp (.tup l)) (qp (.tup F)) (some (.ref S.length)) N none none none none) (S++[.dct K (V.map .p)]):=fun b i S hB=>by
  have ef:=uT (n:=n+1) (by lia) hB T;obtain⟨N,e5⟩:=eit b i S st step v (.int (r:Int)) (qp (.tup cs)) (qp (.tup l)) none none none none none hB;obtain⟨jh,jp,jl,jm,mk,mv,h⟩:=hB;refine⟨N,fun g=>?_⟩;refine (al (e:=[some (.ref i),qp st,qi (hd:Int),qp step,qp y,qp v,none,none,none,none,none,none,none,none,none,none]) (b:=S) ?_).trans ?_
  .rw [dW,h.meth rfl (HD _) HI (l:=[.p (.int (hd:Int))]) (by simp),ef];rfl
  refine (al (e:=SL i st (.int (hd:Int)) step y v (.int (r:Int)) (qp (.tup cs)) (qp (.tup l)) none none none none none none none) (b:=S) ?_).trans ?_
  .simp [st,bw hhx]
  refine (al (e:=SL i st (.int (hd:Int)) step y v (.int (r:Int)) (qp (.tup cs)) (qp (.tup l)) (qp (.tup u)) none none none none none none) (b:=S) ?_).trans ?_
  .simp [st]
  refine (al (e:=SL i st (.int (hd:Int)) step y v (.int (r:Int)) (qp (.tup cs)) (qp (.tup l)) (qp (.tup u)) (some (.ref S.length)) none none none none none) (b:=S++[.dct (cP p) (cs.map .p)]) ?_).trans ?_
  .rw [dW,xo];show aL (aL (some ([D.p v,D.p (.tup cs)],S)) _) _=_;rw [aD,vj (n:=n+1) (by lia) J hcs S];rfl
  exact al e5
 have tv:∀S:aJ,toP 9 (.ref S.length) (S++[.dct K (V.map .p)])=some (.dct K V,S++[.fz (.dct K V)]):=fun S=>by have:qD (toP 8) (V.map .p) (S++[.dct K (V.map .p)])=some (V,S++[.dct K (V.map .p)]):=kA ..;simp [toP,this]
 rcases hans with rfl | ⟨R,hcs',rfl⟩
 .refine⟨[],by simp,fun _ h=>(by cases h),fun b i S hB=>⟨.p (.lst []),S++[.fz (.dct K V)],?_,Fr.app _ _ _,.inl rfl⟩⟩;obtain⟨N,ep⟩:=pre b i S hB;rw [ee];show (match bX _ _ [some (.ref i),qp st,qi (hd:Int),qp step,qp y,none,none,none,none,none,none,none,none,none,none,none] S with | some (.rt d,_,S')=>some (d,S') | some (.nx,_,S')=>some (.p .non,S') | _=>none)=_;unfold bX;rw [ep];simp only [v,step] at ecb ⊢;simp [tv,ecb,rW,d4]
 .obtain⟨j,hj,ej⟩:=nD (xs:=o) (s:=rm2) (fun z hz=>(J.hro z hz).ok 19) hSt.h2;have h4:=fB I;have hsl:=hS.hl;have er:=ni (n:=n+1) (by lia) (xs:=E) (k:=hd) hhd (by lia) (.tup [.int (j:Int),.tup R,.tup X]);have oy:dq 2 y=true:=by
   rcases hy2 with ⟨_,rfl⟩ | ⟨_,t,sp,rfl⟩
   .rfl
   .simp
  generalize hhs:E.set hd (.tup [.int (j:Int),.tup R,.tup X])=Z at er;obtain⟨ys,h1,h2,h3⟩:=eP (q:=GC B) (g:=aV [ag 14,ag 15]) (b:=fE (Ph (n+1)) (Ph n)) (Sp:=fun G S=>Fr G.b G.S0 S) (r:=fun G=>G.r) (Q:=jM "step" (·=(hd:Int))) (c:=1) (M:=1000) (e:=W)
   (p:=fun G L=>∃N q14 q15,L=SL G.i st (.int (hd:Int)) step y v (.int (r:Int)) (qp (.tup R)) (qp (.tup X)) (qp (.tup F)) (some (.ref G.S0.length)) N (qp (.tup Z)) (some (.ref G.r)) q14 q15) (fun w hw=>by
    obtain⟨as,rs,rfl,ha1,ha2,hr⟩:=hW2 w hw;have oas:dq 2 (.tup as)=true:=bQ.mpr fun m ha=>(ha2 m ha).ok 1;refine⟨[.tup [.tup [.str "step",.int (hd:Int),.str x,y,.tup as],.tup [.tup Z,.tup rs]]],by simp,fun z hz=>⟨.tup [.str "step",.int (hd:Int),.str x,y,.tup as],.tup [.tup Z,.tup rs],by simpa using hz,_,_,_,rfl,rfl,.inl ⟨x,rfl⟩,fun d hd=>?_⟩,fun G L S acc hLp fr hS' hM=>?_⟩
    .simp only [az,dj,di] at hd;rcases hd with rfl | rfl | rfl | rfl | rfl
     .simp
     .simp
     .simpa using hx
     .exact oy
     .exact oas
    .obtain⟨N,q14,q15,rfl⟩:=hLp;refine⟨SL G.i st (.int (hd:Int)) step y v (.int (r:Int)) (qp (.tup R)) (qp (.tup X)) (qp (.tup F)) (some (.ref G.S0.length)) N (qp (.tup Z)) (some (.ref G.r)) (qp (.tup as)) (qp (.tup rs)),_,_,rfl,iQ rfl hS' (y:=.tup [.tup [.str "step",.int (hd:Int),.str x,y,.tup as],.tup [.tup Z,.tup rs]]) ?_ hS' (by lia),⟨_,_,_,rfl⟩,fr.set G.le G.hr _,hU hS'⟩;simp [step])
  refine⟨ys,by lia,h2,fun b i S hB=>?_⟩;obtain⟨N,ep⟩:=pre b i S hB;have frA:=Fr.app b S [.fz (.dct K V),.lst []];have hk0:(S++[SO.fz (.dct K V),.lst []])[S.length]? = some (.fz (.dct K V)):=by simp
  have hk1:(S++[SO.fz (.dct K V),.lst []])[S.length+1]? = some (.lst []):=by simp
  obtain⟨d1,S1,e1,fr1,an1⟩:=esd b i (S++[.fz (.dct K V),.lst []]) S.length (hB.fr frA) hB.le hk0;have hb1:b≤(S++[SO.fz (.dct K V),.lst []]).length:=aU hB.le (by simp);obtain⟨S2,e2,fr2⟩:=nV (b:=b) (g:=Ph (n+1) "sendings") (q:=ac (aa 0) (ac (aa 2) (ac (eV (ab am (vv 3) (vi 5))) (ac (aa 10) (ac (aa 9) (ac (aa 8) bf)))))) (L:=SL i st (.int (hd:Int)) step y v (.int (r:Int)) (qp (.tup R)) (qp (.tup X)) (qp (.tup F)) (some (.ref S.length)) N (qp (.tup Z)) (some (.ref (S.length+1))) none none) (S:=S++[.fz (.dct K V),.lst []]) (l:=[.ref i,.p (.int (hd:Int)),.p (.lst sn),.ref S.length,.p (.tup F),.p (.tup X)]) (by simp [step,Fq]) e1 fr1 hb1 an1;obtain⟨L',S',e3,hL',fr3,h5⟩:=h3 ⟨b,i,S,S.length+1,hB,by lia⟩ _ S2 [] ⟨N,none,none,rfl⟩ (frA.trans fr2) (fr2.hi _ _ (aU hB.le (by lia)) hk1) (by simp;lia);obtain⟨q11',q14',q15',rfl⟩:=hL';refine⟨.ref (S.length+1),S',?_,fr3,.inr ⟨S.length+1,by lia,rfl,.inl h5⟩⟩;rw [ee];show (match bX _ _ [some (.ref i),qp st,qi (hd:Int),qp step,qp y,none,none,none,none,none,none,none,none,none,none,none] S with | some (.rt d,_,S')=>some (d,S') | some (.nx,_,S')=>some (.p .non,S') | _=>none)=_;unfold bX;rw [ep];rw [al (e:=SL i st (.int (hd:Int)) step y v (.int (r:Int)) (qp (.tup R)) (qp (.tup l)) (qp (.tup F)) (some (.ref S.length)) N none none none none) (b:=S++[.fz (.dct K V)]) (by simp [tv,v,step,ecb])];rw [al (e:=SL i st (.int (hd:Int)) step y v (.int (r:Int)) (qp (.tup R)) (qp (.tup l)) (qp (.tup F)) (some (.ref S.length)) N none none none none) (b:=S++[.fz (.dct K V)]) (by simp [rW,d4])];rw [al (e:=SL i st (.int (hd:Int)) step y v (.int (r:Int)) (qp (.tup R)) (qp (.tup X)) (qp (.tup F)) (some (.ref S.length)) N none none none none) (b:=S++[.fz (.dct K V)]) (by simp [v,step,sh,ewb])];rw [al (e:=SL i st (.int (hd:Int)) step y v (.int (r:Int)) (qp (.tup R)) (qp (.tup X)) (qp (.tup F)) (some (.ref S.length)) N (qp (.tup Z)) none none none) (b:=S++[.fz (.dct K V)]) (by simp [v,step,st,yc,JG,ej,er])];rw [al (e:=SL i st (.int (hd:Int)) step y v (.int (r:Int)) (qp (.tup R)) (qp (.tup X)) (qp (.tup F)) (some (.ref S.length)) N (qp (.tup Z)) (some (.ref (S.length+1))) none none) (b:=S++[.fz (.dct K V),.lst []]) (by simp)];rw [al (e:=SL i st (.int (hd:Int)) step y v (.int (r:Int)) (qp (.tup R)) (qp (.tup X)) (qp (.tup F)) (some (.ref S.length)) q11' (qp (.tup Z)) (some (.ref (S.length+1))) q14' q15') (b:=S') (by rw [bS,gO,e2];exact e3)];rfl
theorem GA (I:Pln B.fams B.roads B.wishes) (s:Places B) (Y:12≤n) (T:(aB B.fams)[hd]? = some f) (hS:StL B E u) :
  ∃ys:List P,ys.length≤6144/\(∀z ∈ ys,jM "step" (·=(hd:Int)) z)/\∀(b i:Nat) (S:aJ),Bd B b i S->∃d F,Ph n "hand_ends" [.ref i,.p (.tup [.tup E,.tup u]),.p (.int (hd:Int))] S=some (d,F)/\Fr b S F/\lJ S F d ys:=by
 obtain⟨n,rfl⟩:=fV (n:=n) (by first | assumption | lia);obtain⟨O,C,o,p,A,H,J,rfl⟩:=gQ I.hf (bA T);have hhd:hd < E.length:=by rw [hS.hl];exact ba T
 have hhx:E[hd]? = some E[hd]:=dI hhd;obtain⟨_,_,_,_,_,_,hfe,r,cs,l,hxe,hr1,hcs,hwl,U⟩:=hS.hh hd _ _ T hhx;rw [hxe] at hhx;obtain⟨rfl,hce,rfl,rfl,rfl,rfl⟩:O=_/\C=_/\o=_/\p=_/\A=_/\H=_:=by simp only [P.tup.injEq,mG,P.str.injEq,P.int.injEq,P.lst.injEq,and_true] at hfe;obtain⟨a,b,c,d,e,f⟩:=hfe;exact⟨a,Int.ofNat.inj b,c,d,e,f⟩
 subst hce;have ev:=wB (n:=n+1) (by lia) J hcs;have henv:=qE hcs;have hrg:o[r]? = some o[r]:=dI hr1;obtain⟨rn,hrn,hre⟩:=J.hro o[r] (fw _);rw [hre] at hrg;let v:Nat->Nat->Option D->Option D->Lc:=fun i r' q9 k=>[some (.ref i),qp (.tup [.tup E,.tup u]),qi (hd:Int),qp (eS O C o p A H),qi (r:Int),qp (.tup cs),qp (.tup l),qp (.dct (cP p) cs),some (.ref r'),q9,k]
 obtain⟨ys,h1,h2,h3⟩:=eP (q:=GC B) (g:=ag 9) (b:=df (Ph (n+1)) (Ph n)) (Sp:=fun G S=>Fr G.b G.S0 S) (r:=fun G=>G.r) (Q:=jM "step" (·=(hd:Int))) (c:=768) (M:=10000) (e:=H) (p:=fun G L=>∃q9 k,L=v G.i G.r q9 k) (fun x hx=>by
  obtain⟨X,w,Z,V,m,W,t,hsx,hSt,rfl⟩:=J.hst x hx;obtain⟨w,hrm,rfl⟩:=J.hro w hSt.h1;obtain⟨hb,eh⟩:=zp (qy J.hce.1) henv hSt.wh (n:=n+1) (by lia);have R:∀(i r':Nat) (k:Option D) (S:aJ),(gX (bV (aH d9 (eV (ab am (vv 9) (vi 1))) (eV (ab am (ab am (vv 3) (vi 2)) (vv 4))))) (bT (eV (af (pureOf (Ph (n+1) "holds")) (v2 (ab am (vv 9) (vi 2)) (vv 7)))))) (v i r' (qp (eU X (.str w) Z V m W t)) k) S=some (decide (w=rn) && hb,S):=fun i r' k S=>by by_cases q:w=rn <;> simp [v,JG,bw hrg,q,eh]
  cases hc:(decide (w=rn) && hb) with
  | false=>refine⟨[],by simp,fun _ h=>(by cases h),fun G L S acc N fr j hM=>?_⟩;obtain⟨q9,k,rfl⟩:=N;refine⟨v G.i G.r (qp (eU X (.str w) Z V m W t)) k,v G.i G.r (qp (eU X (.str w) Z V m W t)) k,S,rfl,?_,⟨_,_,rfl⟩,fr,by simpa using j⟩;unfold df;rw [j6,R,hc];rfl
  | true=>
   obtain⟨ls,hl1,hl2,el⟩:=Ar I s (n:=n+1) (by lia) T hS.hr hSt.htk;obtain⟨ys,k1,k2,k3⟩:=eP (q:=GC B) (g:=ag 10) (b:=fI (Ph (n+1)) (Ph n)) (Sp:=fun G S=>Fr G.b G.S0 S) (r:=fun G=>G.r) (Q:=jM "step" (·=(hd:Int))) (c:=64) (M:=10000) (e:=ls) (p:=fun G L=>∃k,L=v G.i G.r (qp (eU X (.str w) Z V m W t)) k) (fun y hy=>by obtain⟨es,m1,m2,m3⟩:=Fv I s (n:=n+1) (by lia) J T hS hsx hSt (hl2 y hy);refine⟨es,m1,m2,fun G L S acc N fr j hM=>?_⟩;obtain⟨k,rfl⟩:=N;obtain⟨d,S1,e1,fr1,an⟩:=m3 G.b G.i S (G.bd.fr fr);obtain⟨S2,e2,K⟩:=nV (b:=G.b) (g:=Ph (n+1) "step_ends") (q:=ac (aa 0) (ac (aa 1) (ac (aa 2) (ac (aa 9) (ac (aa 10) bf))))) (L:=v G.i G.r (qp (eU X (.str w) Z V m W t)) (qp y)) (S:=S) (l:=[.ref G.i,.p (.tup [.tup E,.tup u]),.p (.int (hd:Int)),.p (eU X (.str w) Z V m W t),.p y]) rfl e1 fr1 (aU G.le fr.len) an;have hS2:=K.hi _ _ (aU G.le G.hr) j;exact⟨v G.i G.r (qp (eU X (.str w) Z V m W t)) (qp y),_,_,rfl,jA rfl j e2 hS2 (by lia),⟨_,rfl⟩,(fr.trans K).set G.le G.hr _,hU hS2⟩)
   refine⟨ys,by lia,k2,fun G L S acc N fr j hM=>?_⟩;obtain⟨q9,k,rfl⟩:=N;obtain⟨d,S1,e1,fr1,an⟩:=el G.b G.i S (G.bd.fr fr);obtain⟨S2,e2,K⟩:=nV (b:=G.b) (g:=Ph (n+1) "takeable") (q:=ac (aa 0) (ac (eV (ab am (vv 1) (vi 1))) (ac (aa 2) (ac (eV (ab am (vv 9) (vi 3))) bf)))) (L:=v G.i G.r (qp (eU X (.str w) Z V m W t)) k) (S:=S) (l:=[.ref G.i,.p (.tup u),.p (.int (hd:Int)),.p V]) (by simp [v,sh]) e1 fr1 (aU G.le fr.len) an;obtain⟨L',F,e3,⟨q10',rfl⟩,fr3,h5⟩:=k3 G _ S2 acc ⟨k,rfl⟩ (fr.trans K) (K.hi _ _ (aU G.le G.hr) j) (by lia);refine⟨v G.i G.r (qp (eU X (.str w) Z V m W t)) k,v G.i G.r (qp (eU X (.str w) Z V m W t)) q10',F,rfl,?_,⟨_,_,rfl⟩,fr3,h5⟩;unfold df;rw [j6,R,hc];show cb _ _ _ _ _=_;rw [bS,gO,e2];exact e3)
 have hsl:=J.sl;refine⟨ys,by lia,h2,fun b i S hB=>?_⟩;obtain⟨L',F,e3,⟨q9,k,rfl⟩,fr3,h5⟩:=h3 ⟨b,i,S,S.length,hB,Nat.le_refl _⟩ (v i S.length none none) (S++[.lst []]) [] ⟨none,none,rfl⟩ (Fr.app _ _ _) (gB _ _) (by simp;lia);refine⟨.ref S.length,F,?_,fr3,.inr ⟨S.length,Nat.le_refl _,rfl,.inl h5⟩⟩;have ef:=uT (n:=n+1) (by lia) hB T;obtain⟨jh,jp,jl,jm,mk,mv,h⟩:=hB;rw [fO];show (match cN _ _ [some (.ref i),qp (.tup [.tup E,.tup u]),qi (hd:Int),none,none,none,none,none,none,none,none] S with | some (.rt d,_,F)=>some (d,F) | some (.nx,_,F)=>some (.p .non,F) | _=>none)=_;unfold cN;rw [al (e:=[some (.ref i),qp (.tup [.tup E,.tup u]),qi (hd:Int),qp (eS O C o p A H),none,none,none,none,none,none,none]) (b:=S) (by rw [dW,h.meth rfl (HD _) HI (l:=[.p (.int (hd:Int))]) (by simp),ef];rfl)];rw [al (e:=[some (.ref i),qp (.tup [.tup E,.tup u]),qi (hd:Int),qp (eS O C o p A H),qi (r:Int),qp (.tup cs),qp (.tup l),none,none,none,none]) (b:=S) (by simp [bw hhx])];rw [al (e:=[some (.ref i),qp (.tup [.tup E,.tup u]),qi (hd:Int),qp (eS O C o p A H),qi (r:Int),qp (.tup cs),qp (.tup l),qp (.dct (cP p) cs),none,none,none]) (b:=S) (by simp [ev])];rw [al (e:=v i S.length none none) (b:=S++[.lst []]) (by simp [v])];rw [al (e:=v i S.length q9 k) (b:=F) (by rw [bS,gO,show (ab am (vv 3) (vi 5)) (v i S.length none none) (S++[.lst []])=some (.lst H,S++[.lst []]) by simp [v,K9]];exact e3)];rfl
theorem B5 {B:BD} (I:Pln B.fams B.roads B.wishes) {n:Nat} (Y:5≤n) {w:Str} (hw:w="lose"\/w="double") {E u:List P} (hS:StL B E u) :
  ∃V:List P,V.length≤6144/\(∀z ∈ V,jM w (fun _=>True) z)/\∀(b i:Nat) (S:aJ),Bd B b i S->∃d j,Ph n "flaw_ends" [.ref i,.p (.tup [.tup E,.tup u]),.p (.str w)] S=some (d,j)/\Fr b S j/\lJ S j d V:=by
 obtain⟨n,rfl⟩:=fV (n:=n) (by first | assumption | lia);have how:PyData.strOk w=true:=by rcases hw with rfl | rfl <;> simp
 have hpl:=nY I;have hrl:=hS.hr.1;let f:Nat->Nat->Option D->Option D->Option D->Option D->Option D->Option D->Option D->Option D->Lc:=fun i U R T l o H t s e=>[some (.ref i),qp (.tup [.tup E,.tup u]),qs w,some (.ref U),R,T,l,o,H,t,s,e]
 obtain⟨V,h1,h2,h3⟩:=eP (q:=GC B) (g:=aV [ag 4,ag 5]) (b:=dZ (Ph (n+1)) (Ph n)) (Sp:=fun G S=>Fr G.b G.S0 S) (r:=fun G=>G.r) (Q:=jM w fun _=>True) (c:=3) (M:=10000) (e:=bj 0 B.PR) (p:=fun G L=>∃R T l o H t s e,L=f G.i G.r R T l o H t s e) (fun x hx=>by
  obtain⟨k,hk,hxe⟩:=pP.mp hx;obtain⟨p,hp,rfl⟩:=dO (s:=B.PR) (i:=k) (v:=x) (by rw [dI hk,hxe]);obtain⟨road,hro,a,c,rfl⟩:=rS (bA hp);obtain⟨hkl,A,O,hkr⟩:=hS.hr.at hp;have K:=I.hr road hro;obtain⟨fb,hfb,ef⟩:=Gz (n:=n+1) (by lia) hw K A;have N:∃Z:Str,am road (.int 2)=some (.str Z):=by obtain⟨ra,rb,Z,c,d1,d2,_,_,_,_,_,rfl⟩:=K;exact⟨Z,by simp⟩
  obtain⟨Z,N⟩:=N;obtain⟨us,hu1,hu2,eu⟩:=BK (n:=n+1) (by lia) Z O;have hls3:=O.1;have pre:∀(i U:Nat) (l o H t s e:Option D) (S:aJ) (g:ES),ae (qo (aV [ag 6,ag 7,ag 8]) (vv 5)) (ae (ao 9 (eV (ab am (ab am (vv 1) (vi 1)) (vv 4)))) g) (f i U (qi (k:Int)) (qp (pr road a c)) l o H t s e) S=g (f i U (qi (k:Int)) (qp (pr road a c)) (qp road) (qi (a:Int)) (qi (c:Int)) (qp (.tup A)) s e) S:=fun i U l o H t s e S g=>by
   rw [al (e:=f i U (qi (k:Int)) (qp (pr road a c)) (qp road) (qi (a:Int)) (qi (c:Int)) t s e) (b:=S) (by simp [f,pr]),
    al (e:=f i U (qi (k:Int)) (qp (pr road a c)) (qp road) (qi (a:Int)) (qi (c:Int)) (qp (.tup A)) s e) (b:=S) (by simp [f,bw hkr])]
  cases fb with
  | false=>refine⟨[],by simp,fun _ h=>(by cases h),fun G L S C F W m hM=>?_⟩;obtain⟨R,T,l,o,H,t,s,e,rfl⟩:=F;refine⟨f G.i G.r (qi (k:Int)) (qp (pr road a c)) l o H t s e,f G.i G.r (qi (k:Int)) (qp (pr road a c)) (qp road) (qi (a:Int)) (qi (c:Int)) (qp (.tup A)) s e,S,rfl,?_,⟨_,_,_,_,_,_,_,_,rfl⟩,W,by simpa using m⟩;unfold dZ;rw [pre];simp [f,ef]
  | true=>
   obtain⟨V,k1,k2,k3⟩:=eP (q:=GC B) (g:=ag 10) (b:=fJ (Ph (n+1)) (Ph n)) (Sp:=fun G S=>Fr G.b G.S0 S) (r:=fun G=>G.r) (Q:=jM w fun _=>True) (c:=1) (M:=10000) (e:=us) (p:=fun G L=>∃s e,L=f G.i G.r (qi (k:Int)) (qp (pr road a c)) (qp road) (qi (a:Int)) (qi (c:Int)) (qp (.tup A)) s e) (fun y hy=>by
    obtain⟨sp,hsp,rfl⟩:=hu2 y hy;obtain⟨zs,hz,ez⟩:=GL (n:=n+1) (by lia) hw O (fun q=>hfb q rfl) hsp;have er:=ni (n:=n+1) (by lia) (xs:=u) (k:=k) hkl (by lia) (.tup zs);refine⟨[.tup [.tup [.str w,.int (a:Int),.int (c:Int),.int (sp:Int)],.tup [.tup E,.tup (u.set k (.tup zs))]]],by simp,fun z hz'=>⟨_,_,by simpa using hz',_,_,_,rfl,trivial,.inr ⟨_,rfl⟩,fun d hd=>?_⟩,fun G L S C F W m hM=>?_⟩
    .simp only [az,dj,di] at hd;rcases hd with rfl | rfl | rfl | rfl
     .simpa using how
     .simp
     .simp
     .simp
    .obtain⟨s,e,rfl⟩:=F;refine⟨f G.i G.r (qi (k:Int)) (qp (pr road a c)) (qp road) (qi (a:Int)) (qi (c:Int)) (qp (.tup A)) (qi (sp:Int)) e,f G.i G.r (qi (k:Int)) (qp (pr road a c)) (qp road) (qi (a:Int)) (qi (c:Int)) (qp (.tup A)) (qi (sp:Int)) (qp (.tup (u.set k (.tup zs)))),_,rfl,?_,⟨_,_,rfl⟩,W.set G.le G.hr _,hU m⟩;unfold fJ;refine (al (e:=f G.i G.r (qi (k:Int)) (qp (pr road a c)) (qp road) (qi (a:Int)) (qi (c:Int)) (qp (.tup A)) (qi (sp:Int)) (qp (.tup (u.set k (.tup zs))))) (b:=S) (by simp [f,ez,er])).trans (iQ rfl m ?_ m (by lia));simp [f])
   refine⟨V,by lia,k2,fun G L S C F W m hM=>?_⟩;obtain⟨R,T,l,o,H,t,s,e,rfl⟩:=F;obtain⟨L',j,e3,⟨q10',q11',rfl⟩,J,h5⟩:=k3 G _ S C ⟨s,e,rfl⟩ W m (by lia);refine⟨f G.i G.r (qi (k:Int)) (qp (pr road a c)) l o H t s e,f G.i G.r (qi (k:Int)) (qp (pr road a c)) (qp road) (qi (a:Int)) (qi (c:Int)) (qp (.tup A)) q10' q11',j,rfl,?_,⟨_,_,_,_,_,_,_,_,rfl⟩,J,h5⟩;unfold dZ;rw [pre];simp only [f] at e3;simp [f,ef,N,eu,e3])
 rw [cD] at h1 h3;refine⟨V,by lia,h2,fun b i S hB=>?_⟩;have X:=Fr.app b S [.lst []];obtain⟨jh,jp,jl,jm,mk,mv,h⟩:=hB.fr X;have frB:=X.trans (Fr.frz h.bp h.pr);have hb:=hB.le;have hjp:=h.bp;obtain⟨L',j,e3,⟨R,T,l,o,H,t,s,e,rfl⟩,J,h5⟩:=h3 ⟨b,i,S,S.length,hB,Nat.le_refl _⟩ (f i S.length none none none none none none none none) ((S++[SO.lst []]).set jp (.fz (.lst B.PR))) [] ⟨none,none,none,none,none,none,none,none,rfl⟩ frB (by rw [bt (by lia)];exact gB _ _) (by simp;lia);refine⟨.ref S.length,j,?_,J,.inr ⟨S.length,Nat.le_refl _,rfl,.inl h5⟩⟩;rw [ow];show (match hY _ _ [some (.ref i),qp (.tup [.tup E,.tup u]),qs w,none,none,none,none,none,none,none,none,none] S with | some (.rt d,_,j)=>some (d,j) | some (.nx,_,j)=>some (.p .non,j) | _=>none)=_;unfold hY;rw [al (e:=f i S.length none none none none none none none none) (b:=S++[.lst []]) (by simp [f])];rw [al (e:=f i S.length R T l o H t s e) (b:=j) (by rw [bS,qJ,m9,h.pairs rfl,aD,h.pr.frz];exact e3)];rfl
noncomputable def HL (B:BD) (E u:List P) (l:Nat->List P):Prop:=∀k,k < (aB B.fams).length->(l k).length≤6144/\(∀z ∈ l k,jM "step" (·=(k:Int)) z)/\∀m,12≤m->∀(b i:Nat) (S:aJ),Bd B b i S->∃d h,Ph m "hand_ends" [.ref i,.p (.tup [.tup E,.tup u]),.p (.int (k:Int))] S=some (d,h)/\Fr b S h/\lJ S h d (l k)
noncomputable def isFl (z:P):Prop:=∃w,w≠("step":Str)/\jM w (fun _=>True) z
theorem GN (I:Pln B.fams B.roads B.wishes) (Y:14≤n) (hS:StL B E u) (hH:HL B E u hl) :
  ∃y:List P,y.length≤40000/\(∀z ∈ y,(∃k,k < (aB B.fams).length/\z ∈ hl k)\/isFl z)/\(∀k,k < (aB B.fams).length->∀z ∈ hl k,z ∈ y)/\∀(b i:Nat) (S:aJ),Bd B b i S->∃d w,Ph n "ends_on" [.ref i,.p (.tup [.tup E,.tup u])] S=some (d,w)/\Fr b S w/\lJ S w d y:=by
 obtain⟨n,rfl⟩:=fV (n:=n) (by first | assumption | lia);have h4:=fB I;have hhl:=jy (f:=B.fams);obtain⟨R,la1,la2,ela⟩:=B5 I (n:=n+1) (by lia) (.inl rfl) hS;obtain⟨da,da1,V,Z⟩:=B5 I (n:=n+1) (by lia) (.inr rfl) hS;let s:Nat->Nat->Option D->Lc:=fun i r' q=>[some (.ref i),qp (.tup [.tup E,.tup u]),some (.ref r'),q]
 let f:P->List P:=fun v=>match v with | .int x=>hl x.toNat | _=>[]
 obtain⟨h1,h3⟩:=j' (i:=GC B) (f:=f) (g:=ag 3) (b:=jt (Ph (n+1)) (Ph n)) (Sp:=fun G S=>Fr G.b G.S0 S) (r:=fun G=>G.r) (c:=6144) (M:=100000) (s:=intsFrom 0 (homes B.fams).length) (p:=fun G L=>∃q,L=s G.i G.r q) (fun x hx=>by obtain⟨k,rfl,hk⟩:=e_ hx;simp only [d5];obtain⟨m1,m2,m3⟩:=hH k (by lia);refine⟨m1,fun G L S acc hLp fr F hM=>?_⟩;obtain⟨q,rfl⟩:=hLp;obtain⟨d,Q,W,e,an⟩:=m3 (n+1) (by lia) G.b G.i S (G.bd.fr fr);obtain⟨S2,X,m⟩:=nV (b:=G.b) (g:=Ph (n+1) "hand_ends") (q:=ac (aa 0) (ac (aa 1) (ac (aa 3) bf))) (L:=s G.i G.r (qi (k:Int))) (S:=S) (l:=[.ref G.i,.p (.tup [.tup E,.tup u]),.p (.int (k:Int))]) rfl W e (aU G.le fr.len) an;have K:=m.hi _ _ (aU G.le G.hr) F;exact⟨s G.i G.r (qi (k:Int)),_,_,rfl,jA rfl F X K (by lia),⟨_,rfl⟩,(fr.trans m).set G.le G.hr _,hU K⟩)
 rw [bv] at h1 h3;generalize O:(intsFrom 0 (homes B.fams).length).flatMap f=y at h1 h3;refine⟨y++R++da,by rw [cO,cO];lia,fun z a=>?_,fun k hk z a=>?_,fun b i S H=>?_⟩
 .rcases dL.mp a with a | a
  .rcases dL.mp a with a | a
   .rw [<- O] at a;obtain⟨x,hx,a⟩:=i_.mp a;obtain⟨k,rfl,hk⟩:=e_ hx;exact .inl ⟨k,by lia,by simpa [f] using a⟩
   .exact .inr ⟨_,by decide,la2 z a⟩
  .exact .inr ⟨_,by decide,V z a⟩
 .refine jb _ (jb _ ?_);rw [<- O];refine i_.mpr ⟨.int (k:Int),?_,by simpa [f] using a⟩;unfold Ev.intsFrom;exact cn.mpr ⟨k,jX.mpr (by lia),by simp⟩
 .have A:=Fr.app b S [.lst []];have o:=H.le;obtain⟨L',Q,W,⟨q,rfl⟩,e,C⟩:=h3 ⟨b,i,S,S.length,H,Nat.le_refl _⟩ (s i S.length none) (S++[.lst []]) [] ⟨none,rfl⟩ A (gB _ _) (by simp;lia);obtain⟨d2,T2,f2,m,T⟩:=ela b i Q (H.fr e);obtain⟨S2,X,t⟩:=nV (b:=b) (g:=Ph (n+1) "flaw_ends") (q:=ac (aa 0) (ac (aa 1) (ac (eV (vt "lose")) bf))) (L:=s i S.length q) (S:=Q) (l:=[.ref i,.p (.tup [.tup E,.tup u]),.p (.str "lose")]) rfl f2 m (aU o e.len) T;have J:=t.hi _ _ o C;have j:Fr b S (S2.set S.length (.lst (([]++y++R).map .p))):=(e.trans t).set o (Nat.le_refl _) _;have l:=hU (a:=.lst (([]++y++R).map .p)) J;obtain⟨d3,T3,f3,fr3,U⟩:=Z b i _ (H.fr j);obtain⟨S3,e3,p⟩:=nV (b:=b) (g:=Ph (n+1) "flaw_ends") (q:=ac (aa 0) (ac (aa 1) (ac (eV (vt "double")) bf))) (L:=s i S.length q) (l:=[.ref i,.p (.tup [.tup E,.tup u]),.p (.str "double")]) rfl f3 fr3 (aU o j.len) U;have N:=p.hi _ _ o l;refine⟨.ref S.length,S3.set S.length (.lst (([]++y++R++da).map .p)),?_,(j.trans p).set o (Nat.le_refl _) _,.inr ⟨S.length,Nat.le_refl _,rfl,.inl (by rw [hU N];simp)⟩⟩;obtain⟨jh,jp,jl,jm,mk,mv,h⟩:=H.fr A;have hq:(homes B.fams).length < 1000000:=by lia
  rw [sY];show (match ju _ _ [some (.ref i),qp (.tup [.tup E,.tup u]),none,none] S with | some (.rt d,_,w)=>some (d,w) | some (.nx,_,w)=>some (.p .non,w) | _=>none)=_;unfold ju;rw [al (e:=s i S.length none) (b:=S++[.lst []]) (by simp [s])];rw [al (e:=s i S.length q) (b:=Q) (by rw [bS,show gW (dU (dP (aT Att) (aa 0) "homes")) (s i S.length none) (S++[.lst []])=some (intsFrom 0 (homes B.fams).length,S++[.lst []]) by rw [vX,Am,h.homes rfl];simp [h.ho.len,hq]];exact W)]
  rw [al (jA rfl C X J (by simp;lia))];rw [al (jA rfl l e3 N (by simp;lia))];rfl
theorem BB:nW (h.map P.bl)=some h:=by
 induction h with
 | nil=>rfl
 | cons b r i=>simp [nW,i]
end My
namespace My
open PySem L2 Ev
theorem jz [DecidableEq w] (x:w) (y:D):∀(s:List w) (l:List D),s.Nodup->s.length=l.length->(cR x y s l).1.Nodup/\(cR x y s l).1.length=(cR x y s l).2.length/\(cR x y s l).1.length≤s.length+1/\(∀k ∈ (cR x y s l).1,k=x\/k ∈ s)/\∀k,b0 k (cR x y s l).1 (cR x y s l).2=if x=k then some y else b0 k s l
 | [],[],_,_=>⟨by simp [cR],rfl,by simp [cR],fun k h=>.inl (by simpa [cR] using h),fun k=>by by_cases q:x=k <;> simp [cR,b0,q]⟩
 | [],_::_,_,h=>by simp at h
 | _::_,[],_,h=>by simp at h
 | a::s,v::l,f,m=>by
  obtain⟨c,f⟩:=List.nodup_cons.mp f;by_cases q:a=x
  .have e:cR x y (a::s) (v::l)=(a::s,y::l):=by simp [cR,q]
   rw [e];refine⟨List.nodup_cons.mpr ⟨c,f⟩,by simpa using m,by simp,fun k h=>.inr h,fun k=>?_⟩;subst q;by_cases n:a=k <;> simp [b0,n]
  .obtain⟨t,p,u,b,d⟩:=jz x y s l f (by simpa using m);have e:cR x y (a::s) (v::l)=(a::(cR x y s l).1,v::(cR x y s l).2):=by simp [cR,q]
   rw [e];refine⟨List.nodup_cons.mpr ⟨fun z=>?_,t⟩,by simp [p],by simp;lia,fun k h=>?_,fun k=>?_⟩
   .rcases b a z with z | z
    .exact q z
    .exact c z
   .rcases az.mp h with rfl | h
    .exact .inr List.mem_cons_self
    .rcases b k h with h | h
     .exact .inl h
     .exact .inr (bg _ h)
   .show (if a=k then some v else b0 k (cR x y s l).1 (cR x y s l).2)=_;by_cases n:a=k
    .subst n;have:¬x=a:=fun z=>q z.symm
     simp [b0,this]
    .rw [if_neg n,d];by_cases r:x=k
     .simp [r]
     .simp [r,b0,n]
noncomputable def oj:P->List bI
 | .tup [_,.int a,.int b]=>[.inl a,.inl b]
 | _=>[]
noncomputable abbrev KV:=List (List bI)×List D
noncomputable def putAll:Nat->List P->KV->KV
 | _,[],s=>s
 | k,p::r,s=>putAll (k+1) r (cR (oj p) (.p (.int (k:Int))) s.1 s.2)
structure KVok (s:KV):Prop where
 nd:s.1.Nodup
 ln:s.1.length=s.2.length
theorem KVok.put (h:KVok s) (k:List bI) (y:D):KVok (cR k y s.1 s.2):=by obtain⟨x,a,_⟩:=jz k y s.1 s.2 h.nd h.ln;exact⟨x,a⟩
theorem BS:∀(ps:List P) (k:Nat) (s:KV),KVok s->∀y d,b0 y (putAll k ps s).1 (putAll k ps s).2=some d->b0 y s.1 s.2=some d\/∃(j:Nat) (p:P),ps[j]? = some p/\d=.p (.int ((k+j:Nat):Int))
 | [],k,s,h,y,d,e=>.inl e
 | p::r,k,s,h,y,d,e=>by
  rcases BS r (k+1) _ (h.put (oj p) (.p (.int (k:Int)))) y d e with e | ⟨j,n,x,a⟩
  .rw [(jz (oj p) (.p (.int (k:Int))) s.1 s.2 h.nd h.ln).2.2.2.2] at e;split at e
   .cases e;exact .inr ⟨0,p,rfl,rfl⟩
   .exact .inl e
  .exact .inr ⟨j+1,n,by simpa using x,by rw [a,show k+1+j=k+(j+1) by lia]⟩
theorem yL:∀(ps:List P) (k:Nat) (s:KV),KVok s->∀y,((∃d,b0 y s.1 s.2=some d)\/∃p ∈ ps,oj p=y)->∃d,b0 y (putAll k ps s).1 (putAll k ps s).2=some d
 | [],k,s,h,y,q=>by
  rcases q with q | ⟨_,z,_⟩
  .exact q
  .cases z
 | p::r,k,s,h,y,q=>by
  refine yL r (k+1) _ (h.put (oj p) (.p (.int (k:Int)))) y ?_;have e:=(jz (oj p) (.p (.int (k:Int))) s.1 s.2 h.nd h.ln).2.2.2.2 y;by_cases w:oj p=y
  .exact .inl ⟨_,by rw [e,if_pos w]⟩
  .rcases q with ⟨d,q⟩ | ⟨x,z,q⟩
   .exact .inl ⟨d,by rw [e,if_neg w];exact q⟩
   .rcases az.mp z with rfl | z
    .exact absurd q w
    .exact .inr ⟨x,z,q⟩
noncomputable def yW (m r w:List P):BD:=⟨m,r,w,(putAll 0 (bo (aq m) r) ([],[])).1,(putAll 0 (bo (aq m) r) ([],[])).2⟩
theorem Jx:KVok ([],[]):=⟨by simp,rfl⟩
theorem wZ (m o w:List P):Places (yW m o w) where
 get:=fun r a b h=>yL _ 0 _ Jx _ (.inr ⟨_,h,rfl⟩)
 ok:=fun x y d h=>by
  rcases BS _ 0 _ Jx _ d h with e | ⟨j,p,s,n⟩
  .cases e
  .obtain⟨r,k,a,b,rfl⟩:=rS (B:=yW m o w) (bA s);exact⟨j,r,a,b,k,by rw [n,dJ],s⟩
@[simp] theorem Lv:¬("families":Str)="homes"/\¬("families":Str)="pairs"/\¬("families":Str)="places"/\¬("families":Str)="members"/\¬("homes":Str)="pairs"/\¬("homes":Str)="places"/\¬("homes":Str)="members"/\¬("pairs":Str)="places"/\¬("pairs":Str)="members"/\¬("places":Str)="members":=by decide +kernel
theorem B9 {ψ ι:Str->GF} (l:P) (a b c:D) (o u:SO):∀(ps:List P) (k:Nat) (s:KV),KVok s->s.1.length+ps.length≤900000->(∀p ∈ ps,∃r x y,p=.tup [r,.int x,.int y])->∀f m:Option D,∃q n,
  aZ (aV [ag 2,ag 3]) (fj ψ ι) (bj (k:Int) ps) [some (.ref 0),qp l,f,m,none] [.ins "Board" ["families","homes","pairs","places"] [a,b,c,.ref 3],o,u,.dtt s.1 s.2]=some (.nx,[some (.ref 0),qp l,q,n,none],[.ins "Board" ["families","homes","pairs","places"] [a,b,c,.ref 3],o,u,.dtt (putAll k ps s).1 (putAll k ps s).2])
 | [],k,s,_,_,_,f,m=>⟨f,m,rfl⟩
 | p::r,k,s,h,i,g,f,m=>by
  simp only [bx] at i;obtain⟨d,x,y,rfl⟩:=g p List.mem_cons_self;have j:=(jz (oj (.tup [d,.int x,.int y])) (.p (.int (k:Int))) s.1 s.2 h.nd h.ln).2.2.1;obtain⟨q,n,e⟩:=B9 (ψ:=ψ) (ι:=ι) l a b c o u r (k+1) _ (h.put (oj (.tup [d,.int x,.int y])) (.p (.int (k:Int)))) (by lia) (fun p v=>g p (bg _ v)) (qi (k:Int)) (qp (.tup [d,.int x,.int y]));refine⟨q,n,?_⟩;unfold bj putAll;rw [ie] at e;refine (bC (s:=[some (.ref 0),qp l,qi (k:Int),qp (.tup [d,.int x,.int y]),none]) rfl ?_).trans e;have t:=h.nd;have w:s.1.length≤1000000:=by lia
  simp [fj,jF,gM,iB,cw,cg,t,w,oj]
theorem v0:∀{k:List bI}{l:List D},b0 r k l=bR r k l
 | [],_=>by cases ‹List D› <;> rfl
 | _::_,[]=>rfl
 | h::k,v::l=>by
  show (if h=r then some v else b0 r k l)=if h=r then some v else bR r k l
  rw [v0]
theorem Bk {n:Nat} (w:2≤n) {m:List P}{S:aJ}{a e s:D} (x:S[0]? = some (.ins "Board" fields [.p (.lst m),.ref 1,a,e,s])) (q:S[1]? = some (.lst ((homes m).map .p))) {k:Nat}{f:P} (v:(aB m)[k]? = some f):Ph n "Board.family_of" [.ref 0,.p (.int (k:Int))] S=some (.p f,S):=by
 obtain⟨n,rfl⟩:=fV (n:=n) (by first | assumption | lia);obtain⟨p,b,c⟩:=lr v;have r:t3 (dP (aT Att) (aa 0) "homes") (vv 1) [some (.ref 0),qi (k:Int)] S=some (.p (.int (p:Int)),S):=jv.ix (j:=1) (.inl q) (by simp [x,jF,A7]) rfl (bw b);have t:dP (aT Att) (aa 0) "families" [some (.ref 0),qi (k:Int)] S=some (.p (.lst m),S):=by simp [x,jF,A7]
 rw [cd];show (match aO _ [some (.ref 0),qi (k:Int)] S with | some (.rt d,_,h)=>some (d,h) | some (.nx,_,h)=>some (.p .non,h) | _=>none)=_;rw [mH,jn,t,aD,m9,r];simp [bw c]
noncomputable def hG (N:LS) (t:Nat) (s:Str):List Nat:=(List.range t).filter fun i=>decide (N[i]? = some s)
theorem iI (N:LS) (t:Nat) (s:Str):hG N (t+1) s=if N[t]? = some s then hG N t s++[t] else hG N t s:=by
 unfold hG;rw [List.range_succ,List.filter_append];by_cases h:N[t]? = some s
 .rw [if_pos h,t8 (by simpa using h)];rfl
 .rw [if_neg h,t6 (by simpa using h)];simp
theorem u6 (a:t≤N.length) (h:s ∉ N.take t):hG N t s=[]:=by
 unfold hG;refine List.filter_eq_nil_iff.mpr fun i x q=>h ?_
 have x:i < t:=jX.mp x;have e:=of_decide_eq_true q;rw [<- iq x] at e;exact bA e
structure MI (fams:List P) (o2 o3:SO) (t:Nat) (mk:List bI) (mv:List D) (S:aJ):Prop where
 h0:S[0]? = some (.ins "Board" fields [.p (.lst fams),.ref 1,.ref 2,.ref 3,.ref 4])
 h1:S[1]? = some (.lst ((homes fams).map .p))
 h2:S[2]? = some o2
 h3:S[3]? = some o3
 h4:S[4]? = some (.dct mk mv)
 nd:mk.Nodup
 ln:mk.length=mv.length
 le:mk.length≤t
 yes:∀s ∈ (aq fams).take t,∃j,b0 (.inr s) mk mv=some (.ref j)/\5≤j/\S[j]? = some (.lst ((cF (hG (aq fams) t s)).map .p))
 no:∀s,s ∉ (aq fams).take t->b0 (.inr s) mk mv=none
 inj:∀s s' j,b0 (.inr s) mk mv=some (.ref j)->b0 (.inr s') mk mv=some (.ref j)->s=s'
variable {m:List P}{n:Nat}
theorem A3 (h:MI m o2 o3 t mk r S) (hn:2≤n) (ht:t≤100) (L:∀f ∈ m,d_ rs f) (J:(aB m)[t]? = some f) (l:P) (v d:Option D) :
  ∃R U X,MI m o2 o3 (t+1) R U X/\b8 (Ph n) (Ph (n-1)) [some (.ref 0),qp l,v,d,qi (t:Int)] S=some (.nx,[some (.ref 0),qp l,v,d,qi (t:Int)],X):=by
 have N:(aq m)[t]? = some (be f):=by unfold aq;rw [List.getElem?_map,J];rfl
 have htl:t < (aq m).length:=ba N;have ef:=Bk hn h.h0 h.h1 J;have em:dG (mT Tb (Ph n)) (aa 0) "family_of" (ac (aa 4) bf) [some (.ref 0),qp l,v,d,qi (t:Int)] S=some (.p f,S):=by rw [ib];show aL (some (D.ref 0,S)) _=_;rw [aD];simp only [h.h0,HD,HI];exact ef
 have Z:(ab am (vE (dG (mT Tb (Ph n)) (aa 0) "family_of" (ac (aa 4) bf))) (vi 0)) [some (.ref 0),qp l,v,d,qi (t:Int)] S=some (.str (be f),S):=by obtain⟨nm,c,V,I,whos,W,_,rfl⟩:=gQ L (bA J);rw [Ct,m9,em];simp [be]
 have eo:dP (aT Att) (aa 0) "members" [some (.ref 0),qp l,v,d,qi (t:Int)] S=some (.ref 4,S):=by simp [h.h0,jF,A7]
 have l5:4 < S.length:=ba h.h4;have E:(aq m).take (t+1)=(aq m).take t++[be f]:=by rw [List.take_add_one,N];rfl
 have p:∀k,k < S.length->(S++[SO.lst []])[k]? = S[k]?:=fun k B=>List.getElem?_append_left B;have u:jD (.ref 4) S=some (4,mk,r):=by simp [jD,h.h4]
 have o:jD (.ref 4) (S++[.lst []])=some (4,mk,r):=by simp [jD,p 4 l5,h.h4]
 have A:(mk.Nodup/\few mk=true):=⟨h.nd,by rw [lu];have:=h.le;lia⟩;by_cases Q:be f ∈ (aq m).take t
 .obtain⟨j,F,hj,Y⟩:=h.yes _ Q;have M:j < S.length:=ba Y;have K:(S++[SO.lst []])[j]? = some (.lst ((cF (hG (aq m) t (be f))).map .p)):=by rw [p j M];exact Y
  have C:(cF (hG (aq m) t (be f))).length≤1000000:=by have:=j4 (fun i=>decide ((aq m)[i]? = some (be f))) (List.range t);simp [cF,hG];simp at this;lia
  refine⟨mk,r,(S++[SO.lst []]).set j (.lst ((cF (hG (aq m) (t+1) (be f))).map .p)),?_,?_⟩
  .have e:∀k,k < S.length->k≠j->((S++[SO.lst []]).set j (.lst ((cF (hG (aq m) (t+1) (be f))).map .p)))[k]? = S[k]?:=fun k B q=>by rw [bt (fun z=>q z.symm),p k B]
   refine⟨by rw [e 0 (by lia) (by lia)];exact h.h0,by rw [e 1 (by lia) (by lia)];exact h.h1,by rw [e 2 (by lia) (by lia)];exact h.h2,by rw [e 3 (by lia) (by lia)];exact h.h3,by rw [e 4 (by lia) (by lia)];exact h.h4,h.nd,h.ln,by have:=h.le;lia,fun s x=>?_,fun s x=>?_,h.inj⟩
   .by_cases q:s=be f
    .subst q;exact⟨j,F,hj,by rw [cL (by simp;lia)]⟩
    .have g:s ∈ (aq m).take t:=by
      rw [E] at x;rcases dL.mp x with z | z
      .exact z
      .exact absurd (j0.mp z) q
     obtain⟨y,a,b,H⟩:=h.yes s g;have O:y≠j:=fun z=>q (h.inj s (be f) j (z ▸ a) F);refine⟨y,a,b,?_⟩;rw [e y (ba H) O,iI,if_neg fun z=>q (by rw [N] at z;cases z;rfl)];exact H
   .exact h.no s fun z=>x (by rw [E];exact jb _ z)
  .unfold b8;rw [kx,kc,nN,eo,aD];simp only [u,Z,aD];rw [show cy aS [some (D.ref 0),qp l,v,d,qi (t:Int)] S=some (.ref S.length,S++[.lst []]) by simp];simp only [aD,o,cg,if_pos A,F,dk,K];rw [show aa 4 [some (D.ref 0),qp l,v,d,qi (t:Int)] (S++[SO.lst []])=some (.p (.int (t:Int)),S++[.lst []]) from rfl,aD];simp only [K];rw [if_pos (by rw [lu,bP];exact C),iI,if_pos N];simp [cF]
 .have F:=h.no _ Q;obtain⟨g1,g2,g3,g4,G⟩:=jz (.inr (be f):bI) (.ref S.length) mk r h.nd h.ln;have c0:hG (aq m) t (be f)=[]:=u6 (by lia) Q;refine⟨(cR (Sum.inr (be f):bI) (.ref S.length) mk r).1,(cR (Sum.inr (be f):bI) (.ref S.length) mk r).2,((S++[SO.lst []]).set 4 (SO.dct (cR (Sum.inr (be f):bI) (.ref S.length) mk r).1 (cR (Sum.inr (be f):bI) (.ref S.length) mk r).2)).set S.length (.lst [.p (.int (t:Int))]),?_,?_⟩
  .have e:∀k,k < S.length->k≠4->(((S++[SO.lst []]).set 4 (.dct (cR (.inr (be f)) (.ref S.length) mk r).1 (cR (.inr (be f)) (.ref S.length) mk r).2)).set S.length (.lst [.p (.int (t:Int))]))[k]? = S[k]?:=fun k B q=>by rw [bt (by lia),bt (fun z=>q z.symm),p k B]
   refine⟨by rw [e 0 (by lia) (by lia)];exact h.h0,by rw [e 1 (by lia) (by lia)];exact h.h1,by rw [e 2 (by lia) (by lia)];exact h.h2,by rw [e 3 (by lia) (by lia)];exact h.h3,by rw [bt (by lia),cL (by simp;lia)],g1,g2,by have:=h.le;lia,fun s x=>?_,fun s x=>?_,fun s s' j a b=>?_⟩
   .by_cases q:s=be f
    .subst q;refine⟨S.length,by rw [G,if_pos rfl],by lia,?_⟩;rw [cL (by simp),iI,if_pos N,c0];rfl
    .have g:s ∈ (aq m).take t:=by
      rw [E] at x;rcases dL.mp x with z | z
      .exact z
      .exact absurd (j0.mp z) q
     obtain⟨y,a,b,H⟩:=h.yes s g;refine⟨y,by rw [G,if_neg fun z=>q (i4 z).symm];exact a,b,?_⟩;rw [e y (ba H) (by lia),iI,if_neg fun z=>q (by rw [N] at z;cases z;rfl)];exact H
   .rw [G,if_neg fun z=>x (by rw [E,<- i4 z];simp)];exact h.no s fun z=>x (by rw [E];exact jb _ z)
   .have low:∀s j,b0 (.inr s) mk r=some (.ref j)->j < S.length:=fun s j q=>by
     by_cases w:s ∈ (aq m).take t
     .obtain⟨y,a,_,H⟩:=h.yes s w;rw [q] at a;cases a;exact ba H
     .rw [h.no s w] at q;cases q
    rw [G] at a b;split at a
    .rename_i z1;cases a;split at b
     .rename_i z2;exact (i4 z1).symm.trans (i4 z2)
     .exact absurd (low _ _ b) (by lia)
    .split at b
     .cases b;exact absurd (low _ _ a) (by lia)
     .exact h.inj s s' j a b
  .have l1:((S++[SO.lst []]).set 4 (.dct (cR (.inr (be f)) (.ref S.length) mk r).1 (cR (.inr (be f)) (.ref S.length) mk r).2))[S.length]? = some (.lst []):=by
    rw [bt (by lia)];exact gB _ _
   unfold b8;rw [kx,kc,nN,eo,aD];simp only [u,Z,aD];rw [show cy aS [some (D.ref 0),qp l,v,d,qi (t:Int)] S=some (.ref S.length,S++[.lst []]) by simp];simp only [aD,o,cg,if_pos A,F,dk,l1];rw [show ∀T:aJ,aa 4 [some (D.ref 0),qp l,v,d,qi (t:Int)] T=some (.p (.int (t:Int)),T) from fun _=>rfl,aD];simp only [l1];rfl
theorem A4 (y:2≤n) (r:∀f ∈ m,d_ E f) (H:(aB m).length≤100) (p:P) (s c:Option D) (h:MI m j C 0 [] [] S) :
  ∃mk a x q,MI m j C (aB m).length mk a x/\aZ (ag 4) (b8 (Ph n) (Ph (n-1))) (intsFrom 0 (aB m).length) [some (.ref 0),qp p,s,c,none] S=some (.nx,[some (.ref 0),qp p,s,c,q],x):=by
 obtain⟨o,x,e,mk,a,q,I,rfl⟩:=bb (g:=ag 4) (b:=b8 (Ph n) (Ph (n-1))) (Inv:=fun t L S=>∃mk a q,MI m j C t mk a S/\L=[some (.ref 0),qp p,s,c,q]) (s:=intsFrom 0 (aB m).length) (k:=0) (L:=[some (.ref 0),qp p,s,c,none]) (S:=S) (fun i v L S z I=>by obtain⟨rfl,l⟩:=ints_get z;obtain⟨mk,a,q,I,rfl⟩:=I;simp only [d5];rw [dJ] at I ⊢;obtain⟨d,w,x,u,e⟩:=A3 I y (by lia) r (dI l) p s c;exact⟨_,_,x,rfl,e,d,w,_,u,rfl⟩) ⟨[],[],none,h,rfl⟩
 rw [bv,dJ] at I;exact⟨mk,a,x,q,I,e⟩
theorem tU (x:Pln m q w) (J:4≤n):∃S,Ph n "Board.__init__" [.ref 0,.p (.tup [.lst m,.lst q,.lst w])] [.ins "Board" [] []]=some (.p .non,S)/\Bd (yW m q w) S.length 0 S:=by
 obtain⟨n,rfl⟩:=fV (n:=n) (by first | assumption | lia);let l:P:=.tup [.lst m,.lst q,.lst w]
 let R:=bo (aq m) q
 have F:R.length≤2048:=nY (B:=yW m q w) x;have G:=fB x;have v:=jy (f:=m);obtain⟨e,f,c⟩:=B9 (ψ:=Ph (n+1)) (ι:=Ph n) l (.p (.lst m)) (.ref 1) (.ref 2) (.lst ((homes m).map .p)) (.fz (.lst R)) R 0 ([],[]) Jx (by simp;lia) (fun p H=>by obtain⟨r,_,a,b,rfl⟩:=rS (B:=yW m q w) H;exact⟨r,a,b,rfl⟩) none none
 rw [show ((0:Nat):Int)=0 from rfl] at c;generalize u:putAll 0 R ([],[])=k at c;have I:MI m (.fz (.lst R)) (.dtt k.1 k.2) 0 [] [] [.ins "Board" fields [.p (.lst m),.ref 1,.ref 2,.ref 3,.ref 4],.lst ((homes m).map .p),.fz (.lst R),.dtt k.1 k.2,.dct [] []]:=
  ⟨rfl,rfl,rfl,rfl,rfl,by simp,rfl,by simp,fun s h=>(by simp at h),fun s _=>rfl,fun s s' j h=>(by cases h)⟩
 obtain⟨mk,y,S,L,M,g⟩:=A4 (n:=n+1) (by lia) x.hf (by lia) l e f I;have t:Bat (yW m q w) S.length 0 1 2 3 4 mk y S:=by
  refine⟨M.h0,.inl M.h1,.inr M.h2,?_,M.h4,fun s A=>?_,ba M.h0,ba M.h1,ba M.h2,ba M.h3,ba M.h4,Nat.le_refl _⟩
  .have:=M.h3;rw [<- u] at this;exact this
  .have N:(aq m).length=(aB m).length:=by simp [aq]
   obtain⟨j,C,_,i⟩:=M.yes s (by rw [<- N,pJ];exact A);refine⟨j,ba i,by rw [<- v0];exact C,.inl ?_⟩;have:hG (aq m) (aB m).length s=bz (yW m q w).N s:=by rw [<- N];rfl
   rw [<- this];exact i
 refine⟨S,?_,1,2,3,4,mk,y,t⟩;have z:=B6 (n:=n+1) (by lia) x.hf x.f0.2 (.lst q) (.lst w);have o:=BP (n:=n+1) (by lia) x;rw [nM];show (match gU _ _ [some (.ref 0),qp l,none,none,none] [.ins "Board" [] []] with | some (.rt d,_,S)=>some (d,S) | some (.nx,_,S)=>some (.p .non,S) | _=>none)=_;unfold gU;rw [al (e:=[some (.ref 0),qp l,none,none,none]) (b:=[.ins "Board" ["families"] [.p (.lst m)]]) (by simp [l,jF,Ev.putK,Ev.nl])];rw [al (e:=[some (.ref 0),qp l,none,none,none]) (b:=[.ins "Board" ["families","homes"] [.p (.lst m),.ref 1],.lst ((homes m).map .p)]) (by simp [l,jF,Ev.putK,Ev.nl,z])];rw [al (e:=[some (.ref 0),qp l,none,none,none]) (b:=[.ins "Board" ["families","homes","pairs"] [.p (.lst m),.ref 1,.ref 2],.lst ((homes m).map .p),.lst (R.map .p)]) (by simp [l,jF,Ev.putK,Ev.nl,o,R])];rw [al (e:=[some (.ref 0),qp l,none,none,none]) (b:=[.ins "Board" ["families","homes","pairs","places"] [.p (.lst m),.ref 1,.ref 2,.ref 3],.lst ((homes m).map .p),.lst (R.map .p),.dtt [] []]) (by simp [jF,Ev.putK,Ev.nl])];have E:toP 9 (.ref 2) [.ins "Board" ["families","homes","pairs","places"] [.p (.lst m),.ref 1,.ref 2,.ref 3],.lst ((homes m).map .p),.lst (R.map .p),.dtt [] []]=some (.lst R,[.ins "Board" ["families","homes","pairs","places"] [.p (.lst m),.ref 1,.ref 2,.ref 3],.lst ((homes m).map .p),.fz (.lst R),.dtt [] []]):=eB rfl;rw [al (e:=[some (.ref 0),qp l,e,f,none]) (b:=[.ins "Board" ["families","homes","pairs","places"] [.p (.lst m),.ref 1,.ref 2,.ref 3],.lst ((homes m).map .p),.fz (.lst R),.dtt k.1 k.2]) (by rw [bS,qJ,m9];rw [show dP (aT Att) (aa 0) "pairs" [some (D.ref 0),qp l,none,none,none] [SO.ins "Board" ["families","homes","pairs","places"] [.p (.lst m),.ref 1,.ref 2,.ref 3],.lst ((homes m).map .p),.lst (R.map .p),.dtt [] []]=some (.ref 2,[SO.ins "Board" ["families","homes","pairs","places"] [.p (.lst m),.ref 1,.ref 2,.ref 3],.lst ((homes m).map .p),.lst (R.map .p),.dtt [] []]) by simp [jF,gM],aD,E];exact c)]
 rw [al (e:=[some (.ref 0),qp l,e,f,none]) (b:=[.ins "Board" fields [.p (.lst m),.ref 1,.ref 2,.ref 3,.ref 4],.lst ((homes m).map .p),.fz (.lst R),.dtt k.1 k.2,.dct [] []]) (by simp [jF,Ev.putK,Ev.nl,lU,fields])];have K:(homes m).length < 1000000:=by lia
 rw [bS,show gW (dU (dP (aT Att) (aa 0) "homes")) [some (D.ref 0),qp l,e,f,none] [SO.ins "Board" fields [.p (.lst m),.ref 1,.ref 2,.ref 3,.ref 4],.lst ((homes m).map .p),.fz (.lst R),.dtt k.1 k.2,.dct [] []]=some (intsFrom 0 (homes m).length,[SO.ins "Board" fields [.p (.lst m),.ref 1,.ref 2,.ref 3,.ref 4],.lst ((homes m).map .p),.fz (.lst R),.dtt k.1 k.2,.dct [] []]) by simp [jF,A7,cj,K],aD,v];simp only [j1] at g;rw [g]
noncomputable def LE (f g:q->aJ->Option w):Prop:=∀L S r,f L S=some r->g L S=some r
theorem dF:LE f f:=fun _ _ _ h=>h
theorem aX (v:∀a,x=some a->j=some a) (k:∀a S r,q a S=some r->w a S=some r) (h:aL x q=some r):aL j w=some r:=by obtain⟨a,S,e,h⟩:=ai h;rw [v _ e,aD];exact k _ _ _ h
section
variable {f e:EE}{a i b z:EV}{c H d A:EB}{s s' t B:ES}{l p:gj}{y u:n0}{g k:GF}
theorem Dz (h:LE s s') (k:LE t B):LE (ae s t) (ae s' B):=fun L S r q=>by
 rw [qq] at q ⊢;cases e:s L S with
 | none=>rw [e] at q;cases q
 | some z=>obtain⟨f,x,a⟩:=z;rw [e] at q;rw [h _ _ _ e];cases f <;> first | exact k _ _ _ q | exact q
theorem le_if (x:LE c H) (h:LE s s') (k:LE t B):LE (eO c s t) (eO H s' B):=fun L S r q=>aX (x L S) (fun w a r q=>by cases w <;> first | exact k _ _ _ q | exact h _ _ _ q) q
theorem Dy (h:LE f e):LE (ao w f) (ao w e):=fun L S r q=>aX (h L S) (fun _ _ _ q=>q) q
theorem DA (h:LE f e):LE (aO f) (aO e):=fun L S r q=>aX (h L S) (fun _ _ _ q=>q) q
theorem A' (h:LE f e):LE (bL f) (bL e):=fun L S r q=>aX (h L S) (fun _ _ _ q=>q) q
theorem sI {g:iY} (h:LE s s'):∀(a:List P) (L:Lc) (S:aJ) (r:Fl×Lc×aJ),aZ g s a L S=some r->aZ g s' a L S=some r
 | [],_,_,_,q=>q
 | x::a,L,S,r,q=>by
  simp only [aZ] at q ⊢;cases e:g x L with
  | none=>rw [e] at q;cases q
  | some k=>
   rw [e] at q;simp only at q ⊢;cases n:s k S with
   | none=>rw [n] at q;cases q
   | some z=>obtain⟨l,L2,f⟩:=z;rw [n] at q;rw [h _ _ _ n];cases l <;> first | exact sI h a L2 f r q | exact q
theorem DF {g:iY} (h:LE l p) (k:LE s s'):LE (cb l g s) (cb p g s'):=fun L S r q=>aX (h L S) (fun a x r q=>sI k a L x r q) q
theorem A9 (h:LE a i):LE (fm o w a) (fm o w i):=fun L S r q=>by
 cases e:a L S with
 | none=>simp only [fm,oh,oW,e] at q;cases q
 | some z=>have x:=h _ _ _ e;simp only [fm,oh,oW,e] at q;simp only [fm,oh,oW,x];exact q
theorem Gh (h:LE a i):LE (eV a) (eV i):=fun L S r q=>aX (h L S) (fun _ _ _ q=>q) q
theorem Gc (h:LE f e):LE (vE f) (vE e):=fun L S r q=>aX (h L S) (fun _ _ _ q=>q) q
theorem Ge (h:LE a i) (k:LE b z):LE (ab o a b) (ab o i z):=fun L S r q=>aX (h L S) (fun _ x _ q=>aX (k L x) (fun _ _ _ q=>q) q) q
theorem DD (h:LE a i) (k:LE b z):LE (n2 a b) (n2 i z):=fun L S r q=>aX (h L S) (fun v x r q=>by
 cases v with
 | lst p=>exact aX (k L x) (fun _ _ _ q=>q) q
 | tup p=>exact aX (k L x) (fun _ _ _ q=>q) q
 | _=>cases q) q
theorem Dw (x:LE c H) (h:LE a i) (k:LE b z):LE (BJ c a b) (BJ H i z):=fun L S r q=>aX (x L S) (fun w e r q=>by cases w <;> first | exact k _ _ _ q | exact h _ _ _ q) q
theorem Gb (h:LE a i) (k:LE l p):LE (aR a l) (aR i p):=fun L S r q=>aX (h L S) (fun _ x _ q=>aX (k L x) (fun _ _ _ q=>q) q) q
theorem Gi (h:LE f e) (k:LE y u):LE (ac f y) (ac e u):=fun L S r q=>aX (h L S) (fun _ x _ q=>aX (k L x) (fun _ _ _ q=>q) q) q
theorem Dx (h:LE l p):LE (aF l) (aF p):=fun L S r q=>aX (h L S) (fun _ _ _ q=>q) q
theorem DB (h:LE l p):LE (aW l) (aW p):=fun L S r q=>aX (h L S) (fun _ _ _ q=>q) q
theorem A_ (h:LE g k) (x:List P) (v:P) (q:pureOf g x=some v):pureOf k x=some v:=by
 unfold pureOf at q ⊢;cases e:g (x.map .p) [] with
 | none=>rw [e] at q;cases q
 | some z=>rw [e] at q;rw [h _ _ _ e];exact q
theorem vV (u:∀x v,w x=some v->j x=some v) (h:LE l p):LE (af w l) (af j p):=fun L S r q=>aX (h L S) (fun x a r q=>by obtain⟨v,e,rfl⟩:=jc.mp q;rw [u _ _ e];rfl) q
theorem y2 (a:LE g k) (h:LE y u):LE (cB g y) (cB k u):=fun L S r q=>aX (h L S) (fun s x r q=>aX (a s x) (fun _ _ _ q=>q) q) q
theorem w5 (a:LE g k) (h:LE y u):LE (fC g y) (fC k u):=fun L S r q=>aX (h L S) (fun s x r q=>a s x r q) q
theorem vU (n:∀c g,M c j=some g->∃k,C c j=some k/\LE g k) (h:LE y u):LE (dG M o j y) (dG C o j u):=fun L S r q=>aX (fun _ e=>e) (fun w a r q=>by
 cases w with
 | p v=>cases q
 | ref i=>
  cases e:a[i]? with
  | none=>simp only [e] at q;cases q
  | some t=>
   cases t with
   | ins c z l=>
    simp only [e] at q ⊢;cases m:M c j with
    | none=>simp only [m] at q;cases q
    | some g=>
     obtain⟨k,x,f⟩:=n c g m;simp only [m,x] at q ⊢;split at q
     .cases q
     .rename_i b;rw [if_neg b];exact aX (h L a) (fun d s r q=>f (.ref i::d) s r q) q
   | _=>simp only [e] at q;cases q) q
theorem Ba {j t:gj}{f:List Nat}{n:Nat}{g:iY} (F:LE j t) (o:LE c H) (h:LE a i):LE (aY j f n g c a) (aY t f n g H i):=fun L S r q=>aX (F L S) (fun l p r q=>by
 split at q
 .rename_i d;rw [if_pos d];refine aX (q:=fun K s=>some (P.lst K,s)) (fun z e=>?_) (fun _ _ _ q=>q) q;clear q d;generalize jI f n L=b at e ⊢;induction l generalizing b p z with
  | nil=>exact e
  | cons x l u=>
   simp only [br] at e ⊢;cases v:g x b with
   | none=>rw [v] at e;cases e
   | some m=>
    rw [v] at e;simp only at e ⊢;refine aX (o m p) (fun w s r e=>?_) e;cases w with
    | false=>exact u _ _ _ e
    | true=>exact aX (h m s) (fun y A r e=>aX (fun z e=>u _ _ _ e) (fun _ _ _ q=>q) e) e
 .cases q) q
theorem DC (h:LE a i):LE (g6 a) (g6 i):=fun L S r q=>aX (h L S) (fun _ _ _ q=>q) q
theorem DG (h:LE a i):LE (dH o a) (dH o i):=fun L S r q=>aX (fun _ e=>e) (fun w x r q=>by
 cases e:dk w x with
 | none=>simp only [e] at q;cases q
 | some z=>simp only [e] at q ⊢;exact aX (h L x) (fun _ _ _ q=>q) q) q
theorem Gd (h:LE c H):LE (vB c) (vB H):=fun L S r q=>aX (h L S) (fun _ _ _ q=>q) q
theorem Gn (h:LE a i):LE (bV a) (bV i):=fun L S r q=>aX (h L S) (fun _ _ _ q=>q) q
theorem Go (h:LE f e):LE (bT f) (bT e):=fun L S r q=>aX (h L S) (fun _ _ _ q=>q) q
theorem Gq (h:LE c H):LE (mw c) (mw H):=fun L S r q=>aX (h L S) (fun _ _ _ q=>q) q
theorem Gr (h:LE c H) (k:LE d A):LE (gX c d) (gX H A):=fun L S r q=>aX (h L S) (fun w x r q=>by cases w <;> first | exact q | exact k _ _ _ q) q
theorem Gp (h:LE c H) (k:LE d A):LE (wq c d) (wq H A):=fun L S r q=>aX (h L S) (fun w x r q=>by cases w <;> first | exact k _ _ _ q | exact q) q
theorem bG (h:LE s s'):LE (cH j w s) (cH j w s'):=fun x S r q=>by
 unfold cH at q ⊢;split at q
 .rename_i l;rw [if_pos l];cases e:s (x.map some++List.replicate (w-x.length) none) S with
  | none=>rw [e] at q;cases q
  | some z=>rw [e] at q;rw [h _ _ _ e];exact q
 .cases q
end
noncomputable def eZ:LS:=["value_of","holds","compared","values_of","Board.family_of","Board.hands_beside","unlike_spots","replaced","without","takeable","cells_behind","whos_behind","targets_of","posted","sendings","step_ends","hand_ends","done_by","able_on"]
theorem yV:(Tb.all fun d=>!(decide (d.short=("family_of":Str)) || decide (d.short=("hands_beside":Str))) || decide (d.name ∈ eZ))=true:=by decide +kernel
theorem Dt (e:Tb.find? (B1 r "family_of")=some d):d.name ∈ eZ:=by have x:=bQ.mp yV d (pU e);have h:=pH e;unfold B1 at h;simp only [Bool.and_eq_true,decide_eq_true_eq] at h;simpa [h.1.2] using x
theorem Ds (e:Tb.find? (B1 r "hands_beside")=some d):d.name ∈ eZ:=by have x:=bQ.mp yV d (pU e);have h:=pH e;unfold B1 at h;simp only [Bool.and_eq_true,decide_eq_true_eq] at h;simpa [h.1.2] using x
noncomputable def EF (ψ ψ':Str->GF):Prop:=∀x ∈ eZ,LE (ψ x) (ψ' x)
section
variable {ψ ψ':Str->GF} (h:EF ψ ψ') {x:Str} (v:x ∈ eZ) {l p:gj}{y u:n0}{o:EE}
include h v
theorem Gj (k:LE l p):LE (af (pureOf (ψ x)) l) (af (pureOf (ψ' x)) p):=vV (A_ (h x v)) k
theorem Gk (k:LE y u):LE (cB (ψ x) y) (cB (ψ' x) u):=y2 (h x v) k
theorem Gm (k:LE y u):LE (fC (ψ x) y) (fC (ψ' x) u):=w5 (h x v) k
end
variable {o:EE}
theorem Gg (h:EF ψ ψ') (k:LE y u):LE (dG (mT Tb ψ) o "family_of" y) (dG (mT Tb ψ') o "family_of" u):=vU (fun c g e=>by
 unfold Ev.mT at e ⊢;split at e
 .cases e
 .rename_i n;rw [if_neg n];obtain⟨d,x,rfl⟩:=jc.mp e;rw [x];exact⟨_,rfl,h _ (Dt x)⟩) k
theorem Gf (h:EF ψ ψ') (k:LE y u):LE (dG (mT Tb ψ) o "hands_beside" y) (dG (mT Tb ψ') o "hands_beside" u):=vU (fun c g e=>by
 unfold Ev.mT at e ⊢;split at e
 .cases e
 .rename_i n;rw [if_neg n];obtain⟨d,x,rfl⟩:=jc.mp e;rw [x];exact⟨_,rfl,h _ (Ds x)⟩) k
section
variable {ψ ψ' ι ι':Str->GF} (h:EF ψ ψ')
include h
theorem cC:LE (bW ψ ι) (bW ψ' ι')/\LE (dC ψ ι) (dC ψ' ι')/\LE (bO ψ ι) (bO ψ' ι')/\LE (dn ψ ι) (dn ψ' ι')/\LE (bH ψ ι) (bH ψ' ι')/\LE (b6 ψ ι) (b6 ψ' ι')/\LE (eL ψ ι) (eL ψ' ι')/\LE (dX ψ ι) (dX ψ' ι')/\LE (bX ψ ι) (bX ψ' ι')/\LE (cN ψ ι) (cN ψ' ι')/\LE (dR ψ ι) (dR ψ' ι'):=by
 refine⟨?_,?_,?_,?_,?_,?_,?_,?_,?_,?_,?_⟩;all_goals first | unfold bW | unfold dC | unfold bO d8 aM | unfold dn dw | unfold bH | unfold b6 | unfold eL ey | unfold dX eD eE eF | unfold bX fE | unfold cN df fI | unfold dR
 all_goals repeat' with_reducible first | exact dF | refine Dz ?_ ?_ | refine le_if ?_ ?_ ?_ | refine Dy ?_ | refine DA ?_ | refine A' ?_ | refine DF ?_ ?_ | refine A9 ?_ | refine Gh ?_ | refine Gc ?_ | refine Ge ?_ ?_ | refine DD ?_ ?_ | refine Dw ?_ ?_ ?_ | refine Gb ?_ ?_ | refine Gi ?_ ?_ | refine Dx ?_ | refine DB ?_ | refine Gj h (by simp [eZ]) ?_ | refine Gg h ?_ | refine Gf h ?_ | refine vV (fun _ _ q=>q) ?_ | refine Gk h (by simp [eZ]) ?_ | refine Gm h (by simp [eZ]) ?_ | refine Ba ?_ ?_ ?_ | refine DC ?_ | refine DG ?_ | refine Gd ?_ | refine Gn ?_ | refine Go ?_ | refine Gq ?_ | refine Gr ?_ ?_ | refine Gp ?_ ?_
end
theorem tf:Ph 1 "value_of"=cH 2 5 (bW (Ph 0) (Ph 0)):=by kernel_rfl
theorem zB:Ph 1 "holds"=cH 2 3 (dC (Ph 0) (Ph 0)):=by kernel_rfl
theorem tq:Ph 1 "compared"=cH 3 3 (bY (Ph 0) (Ph 0)):=by kernel_rfl
theorem qT:Ph 1 "values_of"=cH 2 2 (ei (Ph 0) (Ph 0)):=by kernel_rfl
theorem ke:Ph 1 "Board.family_of"=cH 2 2 (cX (Ph 0) (Ph 0)):=by kernel_rfl
theorem i0:Ph 1 "Board.hands_beside"=cH 3 3 (bD (Ph 0) (Ph 0)):=by kernel_rfl
theorem ml:Ph 1 "unlike_spots"=cH 2 3 (ck (Ph 0) (Ph 0)):=by kernel_rfl
theorem tm:Ph 1 "replaced"=cH 3 3 (fg (Ph 0) (Ph 0)):=by kernel_rfl
theorem uW:Ph 1 "without"=cH 2 2 (fR (Ph 0) (Ph 0)):=by kernel_rfl
theorem ti:Ph 1 "takeable"=cH 4 10 (dn (Ph 0) (Ph 0)):=by kernel_rfl
theorem mn:Ph 1 "cells_behind"=cH 4 11 (bO (Ph 0) (Ph 0)):=by kernel_rfl
theorem nO:Ph 1 "whos_behind"=cH 4 4 (bH (Ph 0) (Ph 0)):=by kernel_rfl
theorem oA:Ph 1 "targets_of"=cH 5 6 (b6 (Ph 0) (Ph 0)):=by kernel_rfl
theorem xp:Ph 1 "posted"=cH 5 9 (eL (Ph 0) (Ph 0)):=by kernel_rfl
theorem tj:Ph 1 "sendings"=cH 6 18 (dX (Ph 0) (Ph 0)):=by kernel_rfl
theorem qU:Ph 1 "step_ends"=cH 5 16 (bX (Ph 0) (Ph 0)):=by kernel_rfl
theorem qV:Ph 1 "hand_ends"=cH 3 11 (cN (Ph 0) (Ph 0)):=by kernel_rfl
theorem uX:Ph 1 "done_by"=cH 3 5 (fS (Ph 0) (Ph 0)):=by kernel_rfl
theorem uY:Ph 1 "able_on"=cH 4 4 (dR (Ph 0) (Ph 0)):=by kernel_rfl
theorem lv:∀n:Nat,EF (Ph n) (Ph (n+1))
 | 0=>fun x _ L S r q=>by cases (show (none:Option (D×aJ))=some r from q)
 | 1=>fun x v=>by
  have i:=lv 0;simp only [eZ,az,dj,di] at v;rcases v with rfl | rfl | rfl | rfl | rfl | rfl | rfl | rfl | rfl | rfl | rfl | rfl | rfl | rfl | rfl | rfl | rfl | rfl | rfl
  .rw [tf,cI 0];exact bG (cC i).1
  .rw [zB,eR 0];exact bG (cC i).2.1
  .rw [tq,gx 0];exact bG (by unfold bY;exact dF)
  .rw [qT,fN 0];exact bG (by unfold ei;exact dF)
  .rw [ke,cd 0];exact bG (by unfold cX;exact dF)
  .rw [i0,cf 0];exact bG (by unfold bD;exact dF)
  .rw [ml,c_ 0];exact bG (by unfold ck;exact dF)
  .rw [tm,gw 0];exact bG (by unfold fg;exact dF)
  .rw [uW,g8 0];exact bG (by unfold fR;exact dF)
  .rw [ti,ff 0];exact bG (cC i).2.2.2.1
  .rw [mn,dc 0];exact bG (cC i).2.2.1
  .rw [nO,cE 0];exact bG (cC i).2.2.2.2.1
  .rw [oA,db 0];exact bG (cC i).2.2.2.2.2.1
  .rw [xp,gR 0];exact bG (cC i).2.2.2.2.2.2.1
  .rw [tj,gu 0];exact bG (cC i).2.2.2.2.2.2.2.1
  .rw [qU,ee 0];exact bG (cC i).2.2.2.2.2.2.2.2.1
  .rw [qV,fO 0];exact bG (cC i).2.2.2.2.2.2.2.2.2.1
  .rw [uX,g9 0];exact bG (by unfold fS;exact dF)
  .rw [uY,g_ 0];exact bG (cC i).2.2.2.2.2.2.2.2.2.2
 | n+2=>fun x v=>by
  have i:=lv (n+1);simp only [eZ,az,dj,di] at v;rcases v with rfl | rfl | rfl | rfl | rfl | rfl | rfl | rfl | rfl | rfl | rfl | rfl | rfl | rfl | rfl | rfl | rfl | rfl | rfl
  .rw [cI n,cI (n+1)];exact bG (cC i).1
  .rw [eR n,eR (n+1)];exact bG (cC i).2.1
  .rw [gx n,gx (n+1)];exact bG (by unfold bY;exact dF)
  .rw [fN n,fN (n+1)];exact bG (by unfold ei;exact dF)
  .rw [cd n,cd (n+1)];exact bG (by unfold cX;exact dF)
  .rw [cf n,cf (n+1)];exact bG (by unfold bD;exact dF)
  .rw [c_ n,c_ (n+1)];exact bG (by unfold ck;exact dF)
  .rw [gw n,gw (n+1)];exact bG (by unfold fg;exact dF)
  .rw [g8 n,g8 (n+1)];exact bG (by unfold fR;exact dF)
  .rw [ff n,ff (n+1)];exact bG (cC i).2.2.2.1
  .rw [dc n,dc (n+1)];exact bG (cC i).2.2.1
  .rw [cE n,cE (n+1)];exact bG (cC i).2.2.2.2.1
  .rw [db n,db (n+1)];exact bG (cC i).2.2.2.2.2.1
  .rw [gR n,gR (n+1)];exact bG (cC i).2.2.2.2.2.2.1
  .rw [gu n,gu (n+1)];exact bG (cC i).2.2.2.2.2.2.2.1
  .rw [ee n,ee (n+1)];exact bG (cC i).2.2.2.2.2.2.2.2.1
  .rw [fO n,fO (n+1)];exact bG (cC i).2.2.2.2.2.2.2.2.2.1
  .rw [g9 n,g9 (n+1)];exact bG (by unfold fS;exact dF)
  .rw [g_ n,g_ (n+1)];exact bG (cC i).2.2.2.2.2.2.2.2.2.2
theorem F_ (h:n≤w):EF (Ph n) (Ph w):=by
 obtain⟨k,rfl⟩:=Nat.exists_eq_add_of_le h;clear h;induction k with
 | zero=>exact fun _ _=>dF
 | succ k i=>exact fun x v L S r q=>lv (n+k) x v L S r (i x v L S r q)
end My
namespace My
open PySem L2 Ev
theorem Bm (h:dq 20 (.tup x)=true) (a:dq 20 (.tup y)=true):zz (.tup x) (.tup y)=some (PyData.eqv (pd (.tup x)) (pd (.tup y))):=by show (if (dq 20 (.tup x) && dq 20 (.tup y))=true then some _ else none)=_;rw [h,a];rfl
noncomputable abbrev au (B:BD):P:=.tup [.lst B.fams,.lst B.roads,.lst B.wishes]
noncomputable def f_ (h:Int) (s:Str):P->Bool
 | .tup (.str w::.int k::.str t::_)=>decide (w="step") && decide (k=h) && decide (t=s)
 | _=>false
theorem xX (hd:lm w q d) {h:Int} (s:PyData.strOk a=true):∃e,d=.tup e/\zz (.tup (cut e none (some 3))) (.tup [.str "step",.int h,.str a])=some (f_ h a d):=by
 obtain⟨k,x,r,rfl,_,n,o⟩:=hd;refine⟨_,rfl,?_⟩;have c:=rH (xs:=P.str w::.int k::x::r) 3;rw [show ((3:Nat):Int)=3 from rfl] at c;rw [c];have f:dq 20 (.tup [.str w,.int k,x])=true:=bQ.mpr fun d h=>gH (o d (by simp only [az,dj,di] at h;rcases h with rfl | rfl | rfl <;> simp)) (by lia);refine (Bm f (by simp [s])).trans ?_;rcases n with ⟨t,rfl⟩ | ⟨t,rfl⟩
 .simp [pd,kQ,PyData.eqv,PyData.eqvAll,f_,Bool.and_assoc];rw [i6];simp
 .simp [pd,kQ,PyData.eqv,PyData.eqvAll,f_]
theorem Cw (hd:lm w q d) (s:lm u p f) {h:Int} (e:PyData.eqv (pd f) (pd d)=true):f_ h a f=f_ h a d:=by obtain⟨k,x,r,rfl,_,b,_⟩:=hd;obtain⟨m,g,v,rfl,_,n,_⟩:=s;rcases b with ⟨t,rfl⟩ | ⟨t,rfl⟩ <;> rcases n with ⟨c,rfl⟩ | ⟨c,rfl⟩ <;> simp [pd,kQ,PyData.eqv,PyData.eqvAll] at e <;> simp [f_,e]
noncomputable def z3 (B:BD) (w:P):Prop:=∃(p h:Nat) (k f s:Str),w=.tup [.int (p:Int),.int (h:Int)]/\B.wishes[p]? = some (.tup [.str k,.str f,.str s])/\PyData.strOk s=true/\h < (aB B.fams).length
theorem B8 {B:BD}{n:Nat} (b:2≤n) {p:Nat}{h:Int}{k f s:Str} (g:B.wishes[p]? = some (.tup [.str k,.str f,.str s])) (x:PyData.strOk s=true) {w:Str}{q:Int->Prop}{d:P} (hd:lm w q d):pureOf (Ph n "done_by") [au B,.tup [.int (p:Int),.int h],d]=some (.bl (f_ h s d)):=by obtain⟨n,rfl⟩:=fV (n:=n) (by first | assumption | lia);obtain⟨a,rfl,e⟩:=xX hd (h:=h) x;rw [g9,aj];simp [fS,bw g,e]
theorem Hf (v:Pln B.fams B.roads B.wishes) (L:Places B) (w:StL B g a):∃l,HL B g a l:=by
 have x:=fun k (h:k < (aB B.fams).length)=>GA v L (n:=12) (by lia) (dI h) w;let f:Nat->List P:=fun k=>if h:k < (aB B.fams).length then Classical.choose (x k h) else []
 refine⟨f,fun k h=>?_⟩;rw [show f k=Classical.choose (x k h) from dif_pos h];obtain⟨c,t,p⟩:=Classical.choose_spec (x k h);refine⟨c,t,fun m u b i S q=>?_⟩;obtain⟨d,s,e,r⟩:=p b i S q;exact⟨d,s,F_ u "hand_ends" (by simp [eZ]) _ _ _ e,r⟩
noncomputable abbrev uQ:P->P:=fun y=>match y with | .tup (d::_)=>d | _=>.non
theorem G_ {B:BD}{n:Nat} (Q:14≤n) {x r:List P}{l:Nat->List P} (E:HL B x r l) {p h:Nat}{k f s:Str} (I:B.wishes[p]? = some (.tup [.str k,.str f,.str s])) (q:PyData.strOk s=true) (J:h < (aB B.fams).length) {b i:Nat}{S:aJ} (j:Bd B b i S):∃e,Ph n "able_on" [.ref i,.p (au B),.p (.tup [.tup x,.tup r]),.p (.tup [.int (p:Int),.int (h:Int)])] S=some (.p (.bl ((l h).any fun y=>f_ h s (uQ y))),e):=by
 obtain⟨n,rfl⟩:=fV (n:=n) (by first | assumption | lia);obtain⟨C,w,u⟩:=E h J;generalize l h=a at C w u;obtain⟨d,O,o,t,z⟩:=u (n+1) (by lia) b i S j;obtain⟨c,H,A⟩:=nV (b:=b) (g:=Ph (n+1) "hand_ends") (q:=ac (aa 0) (ac (aa 2) (ac (eV (ab am (vv 3) (vi 1))) bf))) (L:=[some (.ref i),qp (au B),qp (.tup [.tup x,.tup r]),qp (.tup [.int (p:Int),.int (h:Int)])]) (S:=S) (l:=[.ref i,.p (.tup [.tup x,.tup r]),.p (.int (h:Int))]) (by simp) o t j.le z;refine⟨c,?_⟩;have F:br (ag 4) eT (af (pureOf (Ph (n+1) "done_by")) (v3 (vv 1) (vv 3) (ab am (vv 4) (vi 0)))) a [some (.ref i),qp (au B),qp (.tup [.tup x,.tup r]),qp (.tup [.int (p:Int),.int (h:Int)]),none] c=some ((a.map fun y=>f_ h s (uQ y)).map P.bl,c):=by
  rw [bM (p:=fun _=>true) (f:=fun y=>.bl (f_ h s (uQ y))) (Inv:=fun L=>∃d,L=[some (.ref i),qp (au B),qp (.tup [.tup x,.tup r]),qp (.tup [.int (p:Int),.int (h:Int)]),d]) (fun v N L G=>?_) ⟨none,rfl⟩,dN,List.map_map]
  .rfl
  obtain⟨d,rfl⟩:=G;obtain⟨d,st,rfl,hd⟩:=w v N;have m:=B8 (n:=n+1) (h:=h) (by lia) I q hd;exact⟨[some (.ref i),qp (au B),qp (.tup [.tup x,.tup r]),qp (.tup [.int (p:Int),.int (h:Int)]),qp (.tup [d,st])],rfl,⟨_,rfl⟩,rfl,fun _=>by simp [m]⟩
 have M:a.length≤1000000:=by lia
 rw [g_];show (match dR _ _ [some (.ref i),qp (au B),qp (.tup [.tup x,.tup r]),qp (.tup [.int (p:Int),.int (h:Int)])] S with | some (.rt d,_,e)=>some (d,e) | some (.nx,_,e)=>some (.p .non,e) | _=>none)=_;unfold dR;have K:aY (g6 (cB (Ph (n+1) "hand_ends") (ac (aa 0) (ac (aa 2) (ac (eV (ab am (vv 3) (vi 1))) bf))))) [] 1 (ag 4) eT (af (pureOf (Ph (n+1) "done_by")) (v3 (vv 1) (vv 3) (ab am (vv 4) (vi 0)))) [some (.ref i),qp (au B),qp (.tup [.tup x,.tup r]),qp (.tup [.int (p:Int),.int (h:Int)])] S=some (.lst ((a.map fun y=>f_ h s (uQ y)).map P.bl),c):=by unfold aY;rw [gO,H];show (if few a=true then _ else _)=_;rw [if_pos (by rw [lu];exact M),show jI [] 1 [some (D.ref i),qp (au B),qp (.tup [.tup x,.tup r]),qp (.tup [.int (p:Int),.int (h:Int)])]=[some (D.ref i),qp (au B),qp (.tup [.tup x,.tup r]),qp (.tup [.int (p:Int),.int (h:Int)]),none] from rfl,F];rfl
 simp only [mH,o_,xV,oN,K];have m:pk [.lst ((a.map fun y=>f_ h s (uQ y)).map P.bl)]=some (.bl (a.any fun y=>f_ h s (uQ y))):=by show (nW _).map _=_;rw [BB,Option.map_some,List.any_map];rfl
 simp [-List.map_map,m]
theorem DH {B:BD} (A:B=yW B.fams B.roads B.wishes) (j:Pln B.fams B.roads B.wishes) {n:Nat} (hn:20≤n) {st:P} (Y:BE B st):∃i:List P,i.length≤40000/\(∀d ∈ i,∃w q,lm w q d)/\pureOf (Ph n "deeds") [au B,st]=some (.lst i)/\∀w,z3 B w->∃p h:Nat,∃k f s:Str,w=.tup [.int (p:Int),.int (h:Int)]/\B.wishes[p]? = some (.tup [.str k,.str f,.str s])/\PyData.strOk s=true/\pureOf (Ph n "able") [au B,st,w]=some (.bl (i.any (f_ h s))):=by
 obtain⟨n,rfl⟩:=K_ (n:=n) (by first | assumption | lia);have C:Places B:=by rw [A];exact wZ _ _ _
 obtain⟨l,r,rfl,S⟩:=Y;obtain⟨Z,H⟩:=Hf j C S;obtain⟨c,V,I,W,X⟩:=GN j (n:=n+2) (by lia) S H;have hd:∀y ∈ c,∃d st w q,y=.tup [d,st]/\lm w q d:=fun y b=>by
  rcases I y b with ⟨k,E,z⟩ | ⟨w,_,d,st,e,hd⟩
  .obtain⟨d,st,e,hd⟩:=(H k E).2.1 y z;exact⟨d,st,_,_,e,hd⟩
  .exact⟨d,st,_,_,e,hd⟩
 refine⟨c.map uQ,by rw [bP];exact V,fun d D=>?_,?_,fun w hw=>?_⟩
 .obtain⟨y,b,rfl⟩:=cn.mp D;obtain⟨d,st,w,q,rfl,h⟩:=hd y b;exact⟨w,q,h⟩
 .obtain⟨o,F,m⟩:=tU j (n:=n+1) (by lia);rw [<- A] at m;obtain⟨d,N,K,U,O⟩:=X _ _ _ m;obtain⟨S3,Q,_⟩:=O.toP U m.le;have a:Ph (n+1) "Board.__init__" [.ref 0,.p (au B)] [.ins "Board" [] []]=some (.p .non,o):=F;have R:pureOf (Ph (n+3) "ends_from") [au B,.tup [.tup l,.tup r]]=some (.lst c):=by
   rw [oz,aj];simp [jT,a,K,Q]
  have T:br (ag 2) eT (ab am (vv 2) (vi 0)) c [qp (au B),qp (.tup [.tup l,.tup r]),none] []=some (c.map uQ,[]):=by rw [bM (p:=fun _=>true) (f:=uQ) (Inv:=fun L=>∃d,L=[qp (au B),qp (.tup [.tup l,.tup r]),d]) (fun v hv L C=>?_) ⟨none,rfl⟩,dN];obtain⟨d,rfl⟩:=C;obtain⟨d,st,_,_,rfl,_⟩:=hd v hv;exact⟨[qp (au B),qp (.tup [.tup l,.tup r]),qp (.tup [d,st])],rfl,⟨_,rfl⟩,rfl,fun _=>by simp⟩
  have hq:c.length≤1000000:=by lia
  rw [xm,aj];simp [pD,aY,R,hq,jI,T]
 .obtain⟨p,h,k,f,s,rfl,J,g,M⟩:=hw;refine⟨p,h,k,f,s,rfl,J,g,?_⟩;obtain⟨o,F,m⟩:=tU j (n:=n+2) (by lia);rw [<- A] at m;obtain⟨N,K⟩:=G_ (n:=n+3) (by lia) H J g M m;have a:Ph (n+2) "Board.__init__" [.ref 0,.p (au B)] [.ins "Board" [] []]=some (.p .non,o):=F;have u:(Z h).any (fun y=>f_ h s (uQ y))=(c.map uQ).any (f_ h s):=by
   rw [List.any_map,i6,i9,i9];refine⟨fun ⟨y,b,e⟩=>⟨y,W h M y b,e⟩,fun ⟨y,b,e⟩=>⟨y,?_,e⟩⟩;rcases I y b with ⟨k,E,z⟩ | ⟨w,hw,_,_,rfl,_,x,_,rfl,_,G,_⟩
   .obtain⟨_,_,rfl,k',x,_,rfl,rfl,G,_⟩:=(H k E).2.1 y z;rcases G with ⟨t,rfl⟩ | ⟨t,rfl⟩
    .simp [f_] at e;rw [<- Int.ofNat.inj e.1];exact z
    .simp [f_] at e
   .rcases G with ⟨t,rfl⟩ | ⟨t,rfl⟩ <;> simp [f_,hw] at e
  rw [<- u,zA,aj];simp [tW,a,K]
section
variable {m:List P}
theorem jj (h:∀f ∈ a,d_ m f) (l:a.length≤4):(aB a).length≤16:=by have:=uO 0 h;unfold aB;simp;lia
theorem vQ (s n:Str->GF) (w:P):∀(b:List P) (k:Nat) (a:List P) (g:Option D),(∀f ∈ b,d_ m f)->a.length+4 * b.length≤1000 ->
  ∃q,aZ (ag 2) (d7 s n) b [qp w,ql a,g] []=some (.nx,[qp w,ql (a++(hw k b).map (·.2)),q],[])
 | [],k,a,g,_,_=>⟨g,by simp [aZ,hw]⟩
 | f::r,k,a,g,h,S=>by
  obtain⟨A,c,o,l,u,v,H,rfl⟩:=h f List.mem_cons_self;have B:=H.hcr.2;simp only [bx] at S;generalize z:P.tup [.str A,.int (c:Int),.lst o,.lst l,.lst u,.lst v]=F;have j:am F (.int 1)=some (.int (c:Int)):=by rw [<- z];simp
  have i:gb F=c:=by rw [<- z];simp [gb]
  obtain⟨q,e⟩:=vQ s n w r (k+1) (a++List.replicate c F) (qp F) (fun x K=>h x (bg _ K)) (by simp;lia);refine⟨q,?_⟩;have y:(hw k (F::r)).map (·.2)=List.replicate c F++(hw (k+1) r).map (·.2):=by simp [hw,i]
  rw [y,<- List.append_assoc];refine (bC (s:=[qp w,ql a,qp F]) (L2:=[qp w,ql (a++List.replicate c F),qp F]) (k:=[]) rfl ?_).trans e;have d:c≤1000000:=by lia
  have p:c < 1000000:=by lia
  have t:a.length+c≤1000000:=by lia
  simp [d7,j,d,p,t]
theorem vP (n:2≤x) (h:∀f ∈ a,d_ m f) (l:a.length≤4) (r w:P):pureOf (Ph x "_law_families") [.tup [.lst a,r,w]]=some (.lst (aB a)):=by obtain⟨x,rfl⟩:=fV (n:=x) (by first | assumption | lia);obtain⟨q,e⟩:=vQ (Ph (x+1)) (Ph x) (.tup [.lst a,r,w]) a 0 [] none h (by simp;lia);rw [ly,aj];simp only [fX] at e;simp [ij,e,aB]
theorem lD (A:3≤x) (h:∀f ∈ k,d_ m f) (d:k.length≤4) (o n:P) (s:Str) :
  pureOf (Ph x "_law_crew") [.tup [.lst k,o,n],.str s]=some (.lst ((bz (aq k) s).map fun (i:Nat)=>P.int (i:Int))):=by
 obtain⟨x,rfl⟩:=fV (n:=x) (by first | assumption | lia);have g:=vP (x:=x+1) (by lia) h d o n;have u:=jj h d;have j:br (aV [ag 2,ag 3]) (bV (aH d9 (eV (ab am (vv 3) (vi 0))) (aa 1))) (vv 2) (bj 0 (aB k)) [qp (.tup [.lst k,o,n]),qs s,none,none] [] =
   some (((bj 0 (aB k)).filter fun v=>match v with | .tup [_,f]=>decide (be f=s) | _=>false).map (fun v=>match v with | .tup [i,_]=>i | _=>.non),[]):=by
  refine bM (Inv:=fun L=>∃a b,L=[qp (.tup [.lst k,o,n]),qs s,a,b]) (fun v F L y=>?_) ⟨none,none,rfl⟩;obtain⟨a,b,rfl⟩:=y;obtain⟨i,p,e⟩:=pP.mp F;obtain⟨f,z,rfl⟩:=dO (s:=aB k) (i:=i) (v:=v) (by rw [dI p,e]);obtain⟨K,c,r,l,w,t,H,rfl⟩:=gQ h (bA z);exact⟨[qp (.tup [.lst k,o,n]),qs s,qi (i:Int),qp (.tup [.str K,.int (c:Int),.lst r,.lst l,.lst w,.lst t])],rfl,⟨_,_,rfl⟩,by simp [be];first | done | exact decide_eq_decide.mpr Iff.rfl,fun _=>by simp⟩
 have S:(bj 0 (aB k)).length≤1000000:=by rw [cD];lia
 rw [qQ,aj];simp [kM,aY,g,S,jI,j];rw [B7];unfold bz aq;rw [pG,List.map_map,bP];congr 1;refine List.filter_congr fun i p=>?_;have q:i < (aB k).length:=by simpa using p
 simp [q]
theorem Jv (s n:Str->GF) (p road:P) (x:Nat):∀(os:List Nat) (a:List P) (k:Option D),a.length+os.length≤100000->∃q,aZ (ag 4) (dY s n) (cF os) [qp p,some (.ref 0),qp road,qi (x:Int),k] [.lst (a.map .p)] =
   some (.nx,[qp p,some (.ref 0),qp road,qi (x:Int),q],[.lst ((a++(os.filter fun o=>!decide (x=o)).map fun o=>pr road x o).map .p)])
 | [],a,k,_=>⟨k,by simp [cF,aZ]⟩
 | o::os,a,k,b=>by
  simp only [bx] at b;by_cases h:x=o
  .obtain⟨q,e⟩:=Jv s n p road x os a (qi (o:Int)) (by lia);refine⟨q,?_⟩;have f:(o::os).filter (fun o=>!decide (x=o))=os.filter fun o=>!decide (x=o):=by simp [h]
   rw [f];refine (bC (s:=[qp p,some (.ref 0),qp road,qi (x:Int),qi (o:Int)]) (L2:=[qp p,some (.ref 0),qp road,qi (x:Int),qi (o:Int)]) (k:=[.lst (a.map .p)]) rfl ?_).trans e;simp [dY,h]
  .obtain⟨q,e⟩:=Jv s n p road x os (a++[pr road x o]) (qi (o:Int)) (by simp;lia);refine⟨q,?_⟩;have f:((o::os).filter (fun o=>!decide (x=o))).map (fun o=>pr road x o)=pr road x o::(os.filter fun o=>!decide (x=o)).map fun o=>pr road x o:=by simp [h]
   rw [f,show a++pr road x o::(os.filter fun o=>!decide (x=o)).map (fun o=>pr road x o)=a++[pr road x o]++(os.filter fun o=>!decide (x=o)).map (fun o=>pr road x o) by simp];refine (bC (s:=[qp p,some (.ref 0),qp road,qi (x:Int),qi (o:Int)]) (L2:=[qp p,some (.ref 0),qp road,qi (x:Int),qi (o:Int)]) (k:=[.lst ((a++[pr road x o]).map .p)]) rfl ?_).trans e;have z:¬(x:Int)=(o:Int):=by lia
   have l:a.length≤1000000:=by lia
   rw [<- cv];simp [dY,h,z,dk,l,pr]
theorem J4 (g:3≤h) (d:∀f ∈ x,d_ m f) (l:x.length≤4) (r w:P) (j:ga road):∀(k:List Nat) (e:List P) (v s:Option D),e.length+16 * k.length≤50000->∃q n,aZ (ag 3) (ii (Ph h) (Ph (h-1))) (cF k) [qp (.tup [.lst x,r,w]),some (.ref 0),qp road,v,s] [.lst (e.map .p)] =
   some (.nx,[qp (.tup [.lst x,r,w]),some (.ref 0),qp road,q,n],[.lst ((e++k.flatMap fun t=>((bz (aq x) (rB road)).filter fun o=>!decide (t=o)).map fun o=>pr road t o).map .p)])
 | [],e,v,s,_=>⟨v,s,by simp [cF,aZ]⟩
 | i::k,e,v,s,A=>by simp only [bx] at A;have F:(bz (aq x) (rB road)).length≤16:=aU (dB _ _) (by unfold aq;rw [bP];exact jj d l);obtain⟨n,u⟩:=Jv (Ph h) (Ph (h-1)) (.tup [.lst x,r,w]) road i (bz (aq x) (rB road)) e s (by lia);have B:=qh i road (bz (aq x) (rB road));obtain⟨q,p,H⟩:=J4 g d l r w j k (e++((bz (aq x) (rB road)).filter fun o=>!decide (i=o)).map fun o=>pr road i o) (qi (i:Int)) n (by rw [cO];lia);refine⟨q,p,?_⟩;rw [ja,<- List.append_assoc];refine (bC (s:=[qp (.tup [.lst x,r,w]),some (.ref 0),qp road,qi (i:Int),s]) rfl ?_).trans H;obtain⟨a,b,C,c,y,z,E,G,K,_,_,rfl⟩:=j;have S:=lD g d l r w b;simp only [rB] at u;show cb _ _ _ _ _=_;simp only [bS];rw [show g6 (af (pureOf (Ph h "_law_crew")) (v2 (vv 0) (ab am (vv 2) (vi 1)))) [qp (.tup [.lst x,r,w]),some (.ref 0),qp (.tup [.str a,.str b,.str C,.int c,.bl y,.bl z]),qi (i:Int),s] [.lst (e.map .p)]=some (cF (bz (aq x) b),[.lst (e.map .p)]) by simp [S,cF]];exact u
theorem J3 (z:3≤x) (i:∀f ∈ e,d_ m f) (l:e.length≤4) (p w:P):∀(o:List P) (s:List P) (j q k:Option D),(∀r ∈ o,ga r)->s.length+256 * o.length≤10000->∃H n t,aZ (ag 2) (ig (Ph x) (Ph (x-1))) o [qp (.tup [.lst e,p,w]),some (.ref 0),j,q,k] [.lst (s.map .p)] =
   some (.nx,[qp (.tup [.lst e,p,w]),some (.ref 0),H,n,t],[.lst ((s++bo (aq e) o).map .p)])
 | [],s,j,q,k,_,_=>⟨j,q,k,by simp [bo,aZ]⟩
 | road::o,s,j,q,k,F,I=>by
  simp only [bx] at I;have N:(aq e).length≤16:=by unfold aq;rw [bP];exact jj i l
  have E:(bz (aq e) (rA road)).length≤16:=aU (dB _ _) N;have y:(bz (aq e) (rB road)).length≤16:=aU (dB _ _) N;have v:=F road List.mem_cons_self;obtain⟨n,t,S⟩:=J4 z i l p w v (bz (aq e) (rA road)) s q k (by lia);have J:(uB (aq e) road).length≤256:=by have:=qr (aq e) road _ y (bz (aq e) (rA road));unfold uB;lia
  obtain⟨d,u,g,B⟩:=J3 z i l p w o (s++uB (aq e) road) (qp road) n t (fun r h=>F r (bg _ h)) (by rw [cO];lia);refine⟨d,u,g,?_⟩;rw [show bo (aq e) (road::o)=uB (aq e) road++bo (aq e) o by simp [bo],<- List.append_assoc];refine (bC (s:=[qp (.tup [.lst e,p,w]),some (.ref 0),qp road,q,k]) rfl ?_).trans B;obtain⟨a,b,L,c,K,A,M,O,G,_,_,rfl⟩:=v;have C:=lD z i l p w a;simp only [rA] at S;show cb _ _ _ _ _=_;simp only [bS];rw [show g6 (af (pureOf (Ph x "_law_crew")) (v2 (vv 0) (ab am (vv 2) (vi 0)))) [qp (.tup [.lst e,p,w]),some (.ref 0),qp (.tup [.str a,.str b,.str L,.int c,.bl K,.bl A]),q,k] [.lst (s.map .p)]=some (cF (bz (aq e) a),[.lst (s.map .p)]) by simp [C,cF]];exact S
theorem A6 (n:4≤x) (h:Pln f r w):pureOf (Ph x "_law_pairs") [.tup [.lst f,.lst r,.lst w]]=some (.lst (bo (aq f) r)):=by
 obtain⟨x,rfl⟩:=fV (n:=x) (by first | assumption | lia);have:=h.rl
 obtain⟨q,a,s,e⟩:=J3 (x:=x+1) (by lia) h.hf h.f0.2 (.lst r) (.lst w) r [] none none none h.hr (by simp;lia);rw [ou,aj];simp only [fX,fW,j1] at e;simp [jR,e]
end
theorem vp:∀s:List P,BL (s.map .p)=some s
 | []=>rfl
 | x::s=>by simp [BL,vp s]
variable {s:Str->GF}{n:Str->GF}
theorem yi (U:∀c ∈ l,lS c) (hl:l.length≤3) (d:Int) (S:aJ) (H F K A B C:Option D) (q f m r t p y o:Option D) :
  ∃(O:List P) (u j:Option D),CellsOk l O/\aZ (aV [ag 8,ag 9]) (cW s n) (bj 0 l) [H,F,K,A,B,C,qi d,some (.ref S.length),y,o,q,f,m,r,t,p] (S++[.lst []])=some (.nx,[H,F,K,A,B,C,qi d,some (.ref S.length),u,j,q,f,m,r,t,p],S++[.lst (O.map .p)]):=by
 obtain⟨X,J,e,w,u,j,I,N,rfl,rfl⟩:=bb (g:=aV [ag 8,ag 9]) (b:=cW s n) (Inv:=fun i L J=>∃(w:List P) (y o:Option D),w.length=i/\(∀c ∈ w,∃i:Int,i.natAbs≤999/\c=.int i)/\L=[H,F,K,A,B,C,qi d,some (.ref S.length),y,o,q,f,m,r,t,p]/\J=S++[.lst (w.map .p)]) (s:=bj 0 l) (k:=0) (L:=[H,F,K,A,B,C,qi d,some (.ref S.length),y,o,q,f,m,r,t,p]) (S:=S++[.lst []]) (fun i v L J V T=>by
  obtain⟨c,E,rfl⟩:=dO V;have hi:=ba E;obtain⟨x,lo,a,M,_,Y,Z,b3,b4,rfl⟩:=U c (bA E);obtain⟨w,y,o,I,N,rfl,rfl⟩:=T;obtain⟨z,W,R⟩:∃z:Int,(0 < z/\z < 1152921504606846976)/\L2.atI [P.int 8,.int 32,.int 128] (i:Int)=some (.int z):=by
   have:i=0\/i=1\/i=2:=by lia
   rcases this with rfl | rfl | rfl
   .exact⟨8,by decide,by simp⟩
   .exact⟨32,by decide,by simp⟩
   .exact⟨128,by decide,by simp⟩
  have Q:0 < a-lo+1:=by lia
  have m0:0≤d / z % (a-lo+1):=dD _ (by lia);have m1:d / z % (a-lo+1) < a-lo+1:=d6 _ Q;have G:w.length≤1000000:=by lia
  refine⟨_,[H,F,K,A,B,C,qi d,some (.ref S.length),qi (i:Int),qp (.tup [.str x,.int lo,.int a,.int M]),q,f,m,r,t,p],S++[.lst ((w++[P.int (lo+d / z % (a-lo+1))]).map .p)],rfl,?_,_,_,_,by simp [I],dg N ⟨_,by lia,rfl⟩,rfl,rfl⟩;rw [<- cv];simp [cW,R,W,Q,dk,G]) ⟨[],y,o,rfl,fun _ h=>(by cases h),rfl,rfl⟩
 rw [cD,dJ] at I;exact⟨w,u,j,⟨I,N⟩,e⟩
theorem AA (m:Nat) (T:m≤2) (l:List P) (d:Int) (S:aJ) (u j y o H F:Option D) (A q x a f c p:Option D) :
  ∃(G:List P) (t:Option D),G.length=m/\(∀w ∈ G,o9 w)/\aZ (ag 8) (cV s n) (intsFrom 0 m) [u,j,y,ql l,o,H,qi d,F,p,A,some (.ref S.length),q,x,a,f,c] (S++[.lst []])=some (.nx,[u,j,y,ql l,o,H,qi d,F,t,A,some (.ref S.length),q,x,a,f,c],S++[.lst (G.map .p)]):=by
 obtain⟨Q,C,e,r,t,B,E,rfl,rfl⟩:=bb (g:=ag 8) (b:=cV s n) (Inv:=fun i L C=>∃(r:List P) (p:Option D),r.length=i/\(∀w ∈ r,o9 w)/\L=[u,j,y,ql l,o,H,qi d,F,p,A,some (.ref S.length),q,x,a,f,c]/\C=S++[.lst (r.map .p)]) (s:=intsFrom 0 m) (k:=0) (L:=[u,j,y,ql l,o,H,qi d,F,p,A,some (.ref S.length),q,x,a,f,c]) (S:=S++[.lst []]) (fun i v L C N J=>by
  obtain⟨rfl,R⟩:=ints_get N;obtain⟨r,p,B,E,rfl,rfl⟩:=J;simp only [d5];obtain⟨z,O,I⟩:∃z:Int,(0 < z/\z < 1152921504606846976)/\L2.atI [P.int 512,.int 4096] (i:Int)=some (.int z):=by
   have:i=0\/i=1:=by lia
   rcases this with rfl | rfl
   .exact⟨512,by decide,by simp⟩
   .exact⟨4096,by decide,by simp⟩
  have M:(0:Int) < (l.length:Int)+1:=by lia
  have K:r.length≤1000000:=by lia
  refine⟨_,[u,j,y,ql l,o,H,qi d,F,qi (i:Int),A,some (.ref S.length),q,x,a,f,c],S++[.lst ((r++[P.int (d / z % ((l.length:Int)+1)-1)]).map .p)],rfl,?_,_,_,by simp [B],dg E ⟨_,rfl⟩,rfl,rfl⟩;rw [<- cv];simp [cV,I,O,M,cj,cQ,dk,K]) ⟨[],p,rfl,fun _ h=>(by cases h),rfl,rfl⟩
 rw [bv,dJ] at B;exact⟨r,t,B,E,e⟩
theorem AB (m:Nat) (hm:m≤3) (d:Int) (S:aJ) (o H F K A B C E x f c r:Option D) (j q:Option D) :
  ∃(Q:List P) (w t:Option D),Q.length=m/\(∀l ∈ Q,lR l)/\aZ (ag 8) (cT s n) (intsFrom 0 m) [o,H,F,K,A,B,qi d,C,j,E,x,f,c,r,some (.ref S.length),q] (S++[.lst []])=some (.nx,[o,H,F,K,A,B,qi d,C,w,E,x,f,c,r,some (.ref S.length),t],S++[.lst (Q.map .p)]):=by
 obtain⟨L',J,e,p,w,t,I,N,rfl,rfl⟩:=bb (g:=ag 8) (b:=cT s n) (Inv:=fun i L J=>∃(p:List P) (j q:Option D),p.length=i/\(∀l ∈ p,lR l)/\L=[o,H,F,K,A,B,qi d,C,j,E,x,f,c,r,some (.ref S.length),q]/\J=S++[.lst (p.map .p)]) (s:=intsFrom 0 m) (k:=0) (L:=[o,H,F,K,A,B,qi d,C,j,E,x,f,c,r,some (.ref S.length),q]) (S:=S++[.lst []]) (fun i v L J Z W=>by
  obtain⟨rfl,hi⟩:=ints_get Z;obtain⟨p,j,q,I,N,rfl,rfl⟩:=W;simp only [d5];obtain⟨z,y,hz,hy,V,U⟩:∃z y:Int,(0 < z/\z < 1152921504606846976)/\(0 < y/\y < 1152921504606846976)/\L2.atI [P.int 8,.int 800,.int 80000] (i:Int)=some (.int z)/\L2.atI [P.int 4,.int 400,.int 40000] (i:Int)=some (.int y):=by
   have:i=0\/i=1\/i=2:=by lia
   rcases this with rfl | rfl | rfl
   .exact⟨8,4,by decide,by decide,by simp,by simp⟩
   .exact⟨800,400,by decide,by decide,by simp,by simp⟩
   .exact⟨80000,40000,by decide,by decide,by simp,by simp⟩
  obtain⟨u,X,Y,T⟩:∃u:Int,-998≤u/\u≤997/\L2.atI [P.int 0,.int 997,.int 0,.int (-998)] (d / 8000000 % 4)=some (.int u):=by
   have h:d / 8000000 % 4=0\/d / 8000000 % 4=1\/d / 8000000 % 4=2\/d / 8000000 % 4=3:=by lia
   rcases h with h | h | h | h <;> rw [h] <;> simp
  obtain⟨mk,O,M⟩:=nq (a:="ma") (b:="mb") (d / y);have R:PyData.strOk mk=true:=by rcases O with rfl | rfl <;> simp
  have m0:0≤d / z % 4:=dD _ (by decide);have m1:d / z % 4 < 4:=d6 _ (by decide);have G:p.length≤1000000:=by lia
  refine⟨_,[o,H,F,K,A,B,qi d,C,qi (i:Int),E,x,f,c,r,some (.ref S.length),qi (d / z % 4-1+u)],S++[.lst ((p++[P.tup [.str mk,.int (d / z % 4-1+u)]]).map .p)],rfl,?_,_,_,_,by simp [I],dg N ⟨mk,_,R,by lia,rfl⟩,rfl,rfl⟩;rw [<- cv];simp [cT,V,U,hz,hy,T,M,dk,G]) ⟨[],j,q,rfl,fun _ h=>(by cases h),rfl,rfl⟩
 rw [bv,dJ] at I;exact⟨p,w,t,I,N,e⟩
end My
namespace My
open PySem L2 Ev
variable {B:BD}{n:Nat}
theorem yh (hP:Pln B.fams B.roads B.wishes) (hn:2≤n) (F:List Int) (Q R O N C G z q t u j y:Option D) :
  ∃(hs:List P) (S':aJ) (q4' q5' q6' q7' q8' q9' M:Option D),hs.length=(aB B.fams).length/\(∀(k:Nat) f x,(aB B.fams)[k]? = some f->hs[k]? = some x->vc f x)/\S'[0]? = some (.lst (hs.map .p)) /\
   aZ (aV [ag 4,ag 5]) (cU (Ph n) (Ph (n-1))) (bj 0 (aB B.fams)) [qp (cZ F),qp (au B),some (.ref 0),ql (aB B.fams),Q,R,O,N,C,G,z,q,t,u,j,y] [.lst []]=some (.nx,[qp (cZ F),qp (au B),some (.ref 0),ql (aB B.fams),q4',q5',q6',q7',q8',q9',M,q,t,u,j,y],S'):=by
 have h4:=fB hP;obtain⟨L',S',e,I,q4',q5',q6',q7',q8',q9',M,U,h2,V,rfl⟩:=bb (g:=aV [ag 4,ag 5]) (b:=cU (Ph n) (Ph (n-1))) (Inv:=fun i L S=>∃(I:List P) (Q R O N C G z:Option D),I.length=i/\(∀(k:Nat) x,I[k]? = some x->∀f,(aB B.fams)[k]? = some f->vc f x)/\S[0]? = some (.lst (I.map .p))/\L=[qp (cZ F),qp (au B),some (.ref 0),ql (aB B.fams),Q,R,O,N,C,G,z,q,t,u,j,y]) (s:=bj 0 (aB B.fams)) (k:=0) (L:=[qp (cZ F),qp (au B),some (.ref 0),ql (aB B.fams),Q,R,O,N,C,G,z,q,t,u,j,y]) (S:=[.lst []]) (fun i v L S hv hI=>by
  obtain⟨f,Y,rfl⟩:=dO hv;have hi:=ba Y;obtain⟨A,a,o,l,w,s,W,rfl⟩:=gQ hP.hf (bA Y);obtain⟨I,Q,R,O,N,C,G,z,U,h2,V,rfl⟩:=hI;obtain⟨c,d,hd,e1,e2⟩:=hE (n:=n) (by lia) F (k:=29+(i:Int)) (p:=31) (by lia) (by lia) (by lia);obtain⟨m,J,K,hcs,e3⟩:=yi (s:=Ph n) (n:=Ph (n-1)) W.hce.1 W.cl d S (qp (cZ F)) (qp (au B)) (some (.ref 0)) (ql (aB B.fams)) (qi (i:Int)) (qp (eS A a o l w s)) z q t u j y C G;obtain⟨H,E,hw1,hw2,e4⟩:=AA (s:=Ph n) (n:=Ph (n-1)) w.length W.wl (aB B.fams) d (S++[.lst (m.map .p)]) (qp (cZ F)) (qp (au B)) (some (.ref 0)) (qi (i:Int)) (qp (eS A a o l w s)) (some (.ref S.length)) K q t u j y J;have hl0:0 < S.length:=ba V;have hr0:=len_pos W.r0;have hrp:(0:Int) < (o.length:Int):=by lia
  have r0:0≤d % (o.length:Int):=dD _ (by lia);have r1:d % (o.length:Int) < (o.length:Int):=d6 _ hrp;obtain⟨r,hr⟩:∃r:Nat,d % (o.length:Int)=(r:Int):=⟨(d % (o.length:Int)).toNat,by lia⟩;have hwn:w.length < 1000000:=by have:=W.wl;lia
  have t1:toP 9 (.ref S.length) (S++[.lst (m.map .p)]++[.lst (H.map .p)])=some (.lst m,(S++[SO.lst (m.map .p)]++[SO.lst (H.map .p)]).set S.length (.fz (.lst m))):=eB (by simp);have t2:toP 9 (.ref (S++[SO.lst (m.map .p)]).length) ((S++[SO.lst (m.map .p)]++[SO.lst (H.map .p)]).set S.length (.fz (.lst m)))=some (.lst H,((S++[SO.lst (m.map .p)]++[SO.lst (H.map .p)]).set S.length (.fz (.lst m))).set (S++[SO.lst (m.map .p)]).length (.fz (.lst H))):=eB (by rw [bt (by simp)];exact gB _ _);generalize hT:((S++[SO.lst (m.map .p)]++[SO.lst (H.map .p)]).set S.length (.fz (.lst m))).set (S++[SO.lst (m.map .p)]).length (.fz (.lst H))=T at t2;have X:T[0]? = some (.lst (I.map .p)):=by rw [<- hT,bt (by simp),bt (by lia),List.getElem?_append_left (by simp),List.getElem?_append_left hl0];exact V
  have hS0:(S++[SO.lst (m.map .p)]++[SO.lst (H.map .p)])[0]? = some (.lst (I.map .p)):=by rw [List.getElem?_append_left (by simp),List.getElem?_append_left hl0];exact V
  refine⟨[qp (cZ F),qp (au B),some (.ref 0),ql (aB B.fams),qi (i:Int),qp (eS A a o l w s),O,N,C,G,z,q,t,u,j,y],[qp (cZ F),qp (au B),some (.ref 0),ql (aB B.fams),qi (i:Int),qp (eS A a o l w s),qi d,some (.ref S.length),E,K,some (.ref (S++[SO.lst (m.map .p)]).length),q,t,u,j,y],T.set 0 (.lst ((I++[P.tup [.int (r:Int),.tup m,.tup H]]).map .p)),rfl,?_,I++[P.tup [.int (r:Int),.tup m,.tup H]],_,_,_,_,_,_,_,by simp [U],sT h2 (fun f Z=>?_),hU X,rfl⟩
  .unfold cU;rw [al (e:=[qp (cZ F),qp (au B),some (.ref 0),ql (aB B.fams),qi (i:Int),qp (eS A a o l w s),qi d,N,C,G,z,q,t,u,j,y]) (b:=S) (by simp [e1,e2])];rw [al (e:=[qp (cZ F),qp (au B),some (.ref 0),ql (aB B.fams),qi (i:Int),qp (eS A a o l w s),qi d,some (.ref S.length),C,G,z,q,t,u,j,y]) (b:=S++[.lst []]) (by simp)];rw [al (e:=[qp (cZ F),qp (au B),some (.ref 0),ql (aB B.fams),qi (i:Int),qp (eS A a o l w s),qi d,some (.ref S.length),J,K,z,q,t,u,j,y]) (b:=S++[.lst (m.map .p)]) (by
    rw [bS,qJ,show (ab am (vv 5) (vi 3)) [qp (cZ F),qp (au B),some (.ref 0),ql (aB B.fams),qi (i:Int),qp (eS A a o l w s),qi d,some (.ref S.length),C,G,z,q,t,u,j,y] (S++[.lst []])=some (.lst l,S++[.lst []]) by simp [Ea]];exact e3)]
   rw [al (e:=[qp (cZ F),qp (au B),some (.ref 0),ql (aB B.fams),qi (i:Int),qp (eS A a o l w s),qi d,some (.ref S.length),J,K,some (.ref (S++[SO.lst (m.map .p)]).length),q,t,u,j,y]) (b:=S++[.lst (m.map .p)]++[.lst []]) (by simp)];rw [al (e:=[qp (cZ F),qp (au B),some (.ref 0),ql (aB B.fams),qi (i:Int),qp (eS A a o l w s),qi d,some (.ref S.length),E,K,some (.ref (S++[SO.lst (m.map .p)]).length),q,t,u,j,y]) (b:=S++[.lst (m.map .p)]++[.lst (H.map .p)]) (by rw [bS,show gW (dU (eV (ab am (vv 5) (vi 4)))) [qp (cZ F),qp (au B),some (.ref 0),ql (aB B.fams),qi (i:Int),qp (eS A a o l w s),qi d,some (.ref S.length),J,K,some (.ref (S++[SO.lst (m.map .p)]).length),q,t,u,j,y] (S++[.lst (m.map .p)]++[.lst []])=some (intsFrom 0 w.length,S++[.lst (m.map .p)]++[.lst []]) by simp [H_,cj,cQ,hwn]];exact e4)]
   refine iQ (k:=0) (w:=I) (e:=T) rfl hS0 ?_ X (by lia);have m1:(ab a_ (vv 6) (dU (eV (ab am (vv 5) (vi 2))))) [qp (cZ F),qp (au B),some (.ref 0),ql (aB B.fams),qi (i:Int),qp (eS A a o l w s),qi d,some (.ref S.length),E,K,some (.ref (S++[SO.lst (m.map .p)]).length),q,t,u,j,y] (S++[SO.lst (m.map .p)]++[SO.lst (H.map .p)])=some (.int (r:Int),(S++[SO.lst (m.map .p)]++[SO.lst (H.map .p)])):=by simp [JG,cj,cQ,hr0,hr]
   have m2:(af bK (v1 (vv 7))) [qp (cZ F),qp (au B),some (.ref 0),ql (aB B.fams),qi (i:Int),qp (eS A a o l w s),qi d,some (.ref S.length),E,K,some (.ref (S++[SO.lst (m.map .p)]).length),q,t,u,j,y] (S++[SO.lst (m.map .p)]++[SO.lst (H.map .p)])=some (.tup m,(S++[SO.lst (m.map .p)]++[SO.lst (H.map .p)]).set S.length (.fz (.lst m))):=by show aL (aL (toP 9 (.ref S.length) (S++[SO.lst (m.map .p)]++[SO.lst (H.map .p)])) _) _=_;rw [t1];rfl
   have m3:(af bK (v1 (vv 10))) [qp (cZ F),qp (au B),some (.ref 0),ql (aB B.fams),qi (i:Int),qp (eS A a o l w s),qi d,some (.ref S.length),E,K,some (.ref (S++[SO.lst (m.map .p)]).length),q,t,u,j,y] ((S++[SO.lst (m.map .p)]++[SO.lst (H.map .p)]).set S.length (.fz (.lst m)))=some (.tup H,T):=by show aL (aL (toP 9 (.ref (S++[SO.lst (m.map .p)]).length) ((S++[SO.lst (m.map .p)]++[SO.lst (H.map .p)]).set S.length (.fz (.lst m)))) _) _=_;rw [t2];rfl
   simp only [o_,Al,oN,m1,m2,m3,aD,xU];rfl
  .rw [U,dJ,Y] at Z;cases Z;exact⟨A,a,o,l,w,s,rfl,r,m,H,rfl,by lia,hcs,hw1,hw2⟩) ⟨[],Q,R,O,N,C,G,z,rfl,fun k x h=>(by simp at h),rfl,rfl⟩
 rw [cD,dJ] at U;exact⟨I,S',_,_,_,_,_,_,_,U,fun k f x Y hx=>h2 k x hx f Y,V,e⟩
theorem yg (hP:Pln B.fams B.roads B.wishes) (hn:2≤n) (w:List Int) (h0:S0[0]? = some x0) (hr:S0[r]? = some (.lst [])) (hr0:0 < r) (u j y z H F K s V M C E q f:Option D) :
  ∃(rds:List P) (W:aJ) (Y Z O Q A R:Option D),b9 B rds/\W[0]? = some x0/\W[r]? = some (.lst (rds.map .p)) /\
   aZ (aV [ag 12,ag 13]) (cS (Ph n) (Ph (n-1))) (bj 0 B.PR) [qp (cZ w),u,j,y,z,H,V,F,M,K,s,some (.ref r),C,E,q,f] S0=some (.nx,[qp (cZ w),u,j,y,z,H,Y,F,Z,K,s,some (.ref r),O,Q,A,R],W):=by
 have h4:=nY hP;obtain⟨L',W,e,I,Y,Z,O,Q,A,R,h1,h2,h3,h5,rfl⟩:=bb (g:=aV [ag 12,ag 13]) (b:=cS (Ph n) (Ph (n-1))) (Inv:=fun i L S=>∃(I:List P) (V M C E q f:Option D),I.length=i/\(∀r ∈ I,∃l,jG l/\r=.tup l)/\S[0]? = some x0/\S[r]? = some (.lst (I.map .p))/\L=[qp (cZ w),u,j,y,z,H,V,F,M,K,s,some (.ref r),C,E,q,f]) (s:=bj 0 B.PR) (k:=0) (L:=[qp (cZ w),u,j,y,z,H,V,F,M,K,s,some (.ref r),C,E,q,f]) (S:=S0) (fun i v L S hv hI=>by
  obtain⟨x,hx,rfl⟩:=dO hv;have hi:=ba hx;obtain⟨road,hro,a,b,rfl⟩:=rS (bA hx);obtain⟨ra,rb,kd,c,d1,d2,_,_,hkd,hc1,hc2,rfl⟩:=hP.hr road hro;obtain⟨I,V,M,C,E,q,f,h1,h2,h3,h5,rfl⟩:=hI;obtain⟨c',d,hd,e1,e2⟩:=hE (n:=n) (by lia) w (k:=34+(i:Int) % 20) (p:=33+(i:Int) / 20) (by lia) (by lia) (by lia);have m0:0≤d % (c+1):=dD _ (by lia);have m1:d % (c+1) < c+1:=d6 _ (by lia);have hcp:0 < c+1:=by lia
  obtain⟨m,hm⟩:∃m:Nat,d % (c+1)=(m:Int):=⟨(d % (c+1)).toNat,by lia⟩;obtain⟨l,G,t,hl1,hl2,e3⟩:=AB (s:=Ph n) (n:=Ph (n-1)) m (by lia) d S (qp (cZ w)) u j y z H F K s (some (.ref r)) (qi (i:Int)) (qp (pr (.tup [.str ra,.str rb,.str kd,.int c,.bl d1,.bl d2]) a b)) M f;have hrl:=ba h5;have X:jG l:=⟨by lia,hl2⟩;generalize hp:pr (.tup [.str ra,.str rb,.str kd,.int c,.bl d1,.bl d2]) a b=J at e3;have U:am J (.int 0)=some (.tup [.str ra,.str rb,.str kd,.int c,.bl d1,.bl d2]):=by rw [<- hp];simp [pr]
  have T0:∀(o:SO),(S++[o])[0]? = some x0/\(S++[o])[r]? = some (.lst (I.map .p)):=fun o=>⟨by rw [List.getElem?_append_left (by lia)];exact h3,by rw [List.getElem?_append_left hrl];exact h5⟩;have fin:∃(N:List P) (q:Option D) (T:aJ),jG N/\T[0]? = some x0/\T[r]? = some (.lst (I.map .p)) /\
    ae (eO (bV (aH d9 (eV (ab am (ab am (vv 13) (vi 0)) (vi 2))) (eV (vt "heap")))) (ao 14 (eV (oS (aa 14)))) eW) (bL (bu (aa 11) (eV (af bK (v1 (vv 14)))))) [qp (cZ w),u,j,y,z,H,qi d,F,G,K,s,some (.ref r),qi (i:Int),qp J,some (.ref S.length),t] (S++[.lst (l.map .p)])=some (.nx,[qp (cZ w),u,j,y,z,H,qi d,F,G,K,s,some (.ref r),qi (i:Int),qp J,q,t],T.set r (.lst ((I++[P.tup N]).map .p))):=by
   by_cases hh:kd="heap"
   .obtain⟨N,hz,ez⟩:=oV X;refine⟨N,ql N,S++[.lst (l.map .p)],hz,(T0 _).1,(T0 _).2,?_⟩;rw [al (e:=[qp (cZ w),u,j,y,z,H,qi d,F,G,K,s,some (.ref r),qi (i:Int),qp J,ql N,t]) (b:=S++[.lst (l.map .p)]) (by simp [U,hh,wN,vp,ez])];exact iQ rfl (T0 _).2 (by simp [bK]) (T0 _).2 (by lia)
   .have t1:toP 9 (.ref S.length) (S++[.lst (l.map .p)])=some (.lst l,(S++[SO.lst (l.map .p)]).set S.length (.fz (.lst l))):=eB (by simp);have hT:((S++[SO.lst (l.map .p)]).set S.length (.fz (.lst l)))[r]? = some (.lst (I.map .p)):=by rw [bt (by lia)];exact (T0 _).2
    refine⟨l,some (.ref S.length),(S++[SO.lst (l.map .p)]).set S.length (.fz (.lst l)),X,by rw [bt (by lia)];exact (T0 _).1,hT,?_⟩;rw [al (e:=[qp (cZ w),u,j,y,z,H,qi d,F,G,K,s,some (.ref r),qi (i:Int),qp J,some (.ref S.length),t]) (b:=S++[.lst (l.map .p)]) (by simp [U,hh])];refine iQ rfl (T0 _).2 ?_ hT (by lia);show aL (aL (aL (toP 9 (.ref S.length) (S++[SO.lst (l.map .p)])) _) _) _=_;rw [t1];rfl
  obtain⟨N,A,T,hz,hT0,hTr,e4⟩:=fin;refine⟨[qp (cZ w),u,j,y,z,H,V,F,M,K,s,some (.ref r),qi (i:Int),qp J,q,f],[qp (cZ w),u,j,y,z,H,qi d,F,G,K,s,some (.ref r),qi (i:Int),qp J,A,t],T.set r (.lst ((I++[P.tup N]).map .p)),rfl,?_,I++[P.tup N],_,_,_,_,_,_,by simp [h1],dg h2 ⟨N,hz,rfl⟩,by rw [bt (by lia)];exact hT0,hU hTr,rfl⟩;unfold cS;rw [al (e:=[qp (cZ w),u,j,y,z,H,qi d,F,M,K,s,some (.ref r),qi (i:Int),qp J,q,f]) (b:=S) (by simp [e1,e2])];rw [al (e:=[qp (cZ w),u,j,y,z,H,qi d,F,M,K,s,some (.ref r),qi (i:Int),qp J,some (.ref S.length),f]) (b:=S++[.lst []]) (by simp)];rw [al (e:=[qp (cZ w),u,j,y,z,H,qi d,F,G,K,s,some (.ref r),qi (i:Int),qp J,some (.ref S.length),t]) (b:=S++[.lst (l.map .p)]) (by
   have hm3:m < 1000000:=by lia
   rw [bS,vX];simp [U,hcp,hm,hm3,e3])]
  exact e4) ⟨[],V,M,C,E,q,f,rfl,fun _ h=>(by cases h),h0,hr,rfl⟩
 rw [cD,dJ] at h1;exact⟨I,W,_,_,_,_,_,_,⟨h1,h2⟩,h3,h5,e⟩
theorem CI (k:Pln B.fams B.roads B.wishes) (L:5≤n) (a:List Int):∃st,BE B st/\pureOf (Ph n "_law_standing") [cZ a,au B]=some st:=by
 obtain⟨n,rfl⟩:=fV (n:=n) (by first | assumption | lia);obtain⟨e,h,m,t,p,v,w,u,q,z,y,b,g⟩:=yh k (n:=n+1) (by lia) a none none none none none none none none none none none none;obtain⟨s,f,E,G,K,A,C,D,o,H,F,i⟩:=yg k (n:=n+1) (by lia) a (r:=h.length) (S0:=h++[.lst []]) (x0:=.lst (e.map .p)) (by rw [List.getElem?_append_left (ba b)];exact b) (gB _ _) (ba b) (qp (au B)) (some (.ref 0)) (ql (aB B.fams)) m t v u q p w none none none none;refine⟨.tup [.tup e,.tup s],⟨e,s,rfl,z,y,o⟩,?_⟩;have j:=vP (x:=n+1) (by lia) k.hf k.f0.2 (.lst B.roads) (.lst B.wishes);have l:=A6 (x:=n+1) (by lia) k;have c:(0:Nat)≠h.length:=by have:=ba b;lia
 have I:toP 9 (.ref 0) f=some (.lst e,f.set 0 (.fz (.lst e))):=eB H;have J:toP 9 (.ref h.length) (f.set 0 (.fz (.lst e)))=some (.lst s,(f.set 0 (.fz (.lst e))).set h.length (.fz (.lst s))):=eB (by rw [bt c];exact F);simp only [j1] at g i;rw [lx,aj];show (match fF _ _ [qp (cZ a),qp (au B),none,none,none,none,none,none,none,none,none,none,none,none,none,none] [] with | some (.rt d,_,S)=>(toP 9 d S).map (fun x=>x.fst) | some (.nx,_,_)=>some .non | _=>none)=some (P.tup [.tup e,.tup s]);unfold fF;rw [al (e:=[qp (cZ a),qp (au B),some (.ref 0),none,none,none,none,none,none,none,none,none,none,none,none,none]) (b:=[.lst []]) (by simp)];rw [al (e:=[qp (cZ a),qp (au B),some (.ref 0),ql (aB B.fams),none,none,none,none,none,none,none,none,none,none,none,none]) (b:=[.lst []]) (by simp [j])];rw [al (by rw [bS,show ol (vv 3) [qp (cZ a),qp (au B),some (.ref 0),ql (aB B.fams),none,none,none,none,none,none,none,none,none,none,none,none] [.lst []]=some (bj 0 (aB B.fams),[.lst []]) by simp];exact g)];rw [al (e:=[qp (cZ a),qp (au B),some (.ref 0),ql (aB B.fams),m,t,p,v,w,u,q,some (.ref h.length),none,none,none,none]) (b:=h++[.lst []]) (by simp)];rw [al (by rw [bS,show ol (af (pureOf (Ph (n+1) "_law_pairs")) (v1 (vv 1))) [qp (cZ a),qp (au B),some (.ref 0),ql (aB B.fams),m,t,p,v,w,u,q,some (.ref h.length),none,none,none,none] (h++[.lst []])=some (bj 0 B.PR,h++[.lst []]) by simp [l,BD.PR,BD.N]];exact i)];simp [I,J,bK]
noncomputable def Hh:P->Str
 | .tup (_::.str f::_)=>f
 | _=>""
noncomputable def wA (B:BD) (i:Nat):List P:=(bz B.N (Hh (B.wishes[i]?.getD .non))).map fun (h:Nat)=>P.tup [.int (i:Int),.int (h:Int)]
noncomputable def ce (B:BD) (i:Nat):List P:=(List.range i).flatMap (wA B)
theorem uh (B:BD) (i:Nat):ce B (i+1)=ce B i++wA B i:=by simp [ce,List.range_succ]
theorem qd (h:Pln B.fams B.roads B.wishes) (i:Nat):(wA B i).length≤4:=by unfold wA;rw [bP];exact aU (dB _ _) (j_ h)
theorem ko (h:Pln B.fams B.roads B.wishes):∀i,(ce B i).length≤4 * i
 | 0=>by simp [ce]
 | i+1=>by
  have:=ko h i;have:=qd h i
  rw [uh,cO];lia
theorem vh (P:Pln B.fams B.roads B.wishes) (h:y ∈ ce B B.wishes.length):z3 B y:=by obtain⟨p,b,h⟩:=i_.mp h;obtain⟨x,m,rfl⟩:=cn.mp h;have q:=jX.mp b;have a:B.wishes[p]? = some B.wishes[p]:=dI q;obtain⟨k,f,s,_,_,c,e⟩:=P.hw B.wishes[p] (fw _);rw [e] at a;have n:=jX.mp (fu.mp m).1;exact⟨p,x,k,f,s,rfl,a,c,by unfold BD.N aq at n;rwa [bP] at n⟩
theorem Cq (a:Pln B.fams B.roads B.wishes) (Z:4≤n):Ph n "wishes_of" [.p (au B)] []=some (.ref 0,[.lst ((ce B B.wishes.length).map .p)]):=by
 obtain⟨n,rfl⟩:=fV (n:=n) (by first | assumption | lia);have E:=qL (n:=n+1) (by lia) a.hf a.f0.2 (.lst B.roads) (.lst B.wishes);have W:=fB a;have u:=jy (f:=B.fams);have T:=a.wl;have R:(homes B.fams).length < 1000000:=by lia
 have j:(homes B.fams).length≤1000000:=by lia
 let m:Option D->Option D->Lc:=fun q r=>[qp (au B),ql (homes B.fams),some (.ref 0),q,r]
 obtain⟨U,V,e,q,r,rfl,rfl⟩:=bb (g:=aV [ag 3,ag 4]) (b:=fD (Ph (n+1)) (Ph n)) (Inv:=fun i L S=>∃(q r:Option D),L=m q r/\S=[.lst ((ce B i).map .p)]) (s:=bj 0 B.wishes) (k:=0) (L:=m none none) (S:=[.lst []]) (fun i v L S y J=>by
  obtain⟨x,z,rfl⟩:=dO y;obtain⟨q,r,rfl,rfl⟩:=J;have Y:=ba z;rw [dJ];have Q:=ko a i;have O:=qd a i;have A:wA B i=(bz B.N (Hh x)).map fun (h:Nat)=>P.tup [.int (i:Int),.int (h:Int)]:=by unfold wA;rw [z];rfl
  obtain⟨k,f,s,_,_,_,rfl⟩:=a.hw x (bA z);have G:br (ag 5) (bV (aH d9 (eV (ab am (ab am (ab am (vv 0) (vi 0)) (ab am (vv 1) (vv 5))) (vi 0))) (eV (ab am (vv 4) (vi 1))))) (aF (v2 (vv 3) (vv 5))) (Ev.intsFrom 0 (homes B.fams).length) [qp (au B),ql (homes B.fams),some (.ref 0),qi (i:Int),qp (.tup [.str k,.str f,.str s]),none] [.lst ((ce B i).map .p)]=some (wA B i,[.lst ((ce B i).map .p)]):=by
   rw [bM (p:=fun v=>match v with | .int x=>decide (B.N[x.toNat]? = some f) | _=>false) (f:=fun v=>.tup [.int (i:Int),v]) (Inv:=fun L=>∃d,L=[qp (au B),ql (homes B.fams),some (.ref 0),qi (i:Int),qp (.tup [.str k,.str f,.str s]),d]) (fun v y L M=>?_) ⟨none,rfl⟩]
   .rw [A];unfold Ev.intsFrom bz;rw [pG,List.map_map,show (homes B.fams).length=B.N.length by rw [u];simp [BD.N,aq]];simp only [d5];rfl
   .obtain⟨d,rfl⟩:=M;obtain⟨h,rfl,X⟩:=e_ y;simp only [d5];have K:(aB B.fams)[h]? = some ((aB B.fams)[h]'(by lia)):=dI (by lia);have N:=Hd K;obtain⟨p,I,F⟩:=lr K;obtain⟨nm,c,o,t,C,H,_,w⟩:=gQ a.hf (fw (l:=aB B.fams) (n:=h) (by lia));rw [w] at F N;refine⟨[qp (au B),ql (homes B.fams),some (.ref 0),qi (i:Int),qp (.tup [.str k,.str f,.str s]),qi (h:Int)],rfl,⟨_,rfl⟩,?_,fun _=>by simp⟩;simp [bw I,bw F,N,be]
  refine⟨m (qi (i:Int)) (qp (.tup [.str k,.str f,.str s])),m (qi (i:Int)) (qp (.tup [.str k,.str f,.str s])),[.lst ((ce B i++wA B i).map .p)],rfl,?_,_,_,rfl,by rw [uh]⟩;unfold fD;refine jA (k:=0) (w:=ce B i) (y:=wA B i) (e:=[.lst ((ce B i).map .p)]) rfl rfl ?_ rfl (by lia);simp [m,aY,cj,cQ,R,j,bv,jI,G]) ⟨none,none,rfl,rfl⟩
 rw [cD,dJ] at e;rw [on];simp only [m] at e;simp [cH,jO,E,e]
theorem D0 (u:Pln B.fams B.roads B.wishes) (N:3≤n) (c m r t q w a j l:Option D):∃y z,aZ (aV [ag 3,ag 4]) (iN (Ph n) (Ph (n-1))) (bj 0 B.wishes) [c,qp (au B),ql [],j,l,m,r,t,q,w,a] []=some (.nx,[c,qp (au B),ql (ce B B.wishes.length),y,z,m,r,t,q,w,a],[]):=by
 have Q:=u.wl;obtain⟨R,T,e,y,z,rfl,rfl⟩:=bb (g:=aV [ag 3,ag 4]) (b:=iN (Ph n) (Ph (n-1))) (Inv:=fun i L S=>∃(j l:Option D),L=[c,qp (au B),ql (ce B i),j,l,m,r,t,q,w,a]/\S=[]) (s:=bj 0 B.wishes) (k:=0) (L:=[c,qp (au B),ql [],j,l,m,r,t,q,w,a]) (S:=[]) (fun i v L S E J=>by
  obtain⟨x,C,rfl⟩:=dO E;obtain⟨j,l,rfl,rfl⟩:=J;have U:=ba C;rw [dJ];have O:=ko u i;have o:=qd u i;have A:wA B i=(bz B.N (Hh x)).map fun (h:Nat)=>P.tup [.int (i:Int),.int (h:Int)]:=by unfold wA;rw [C];rfl
  have K:(bz B.N (Hh x)).length≤1000000:=by rw [A,bP] at o;lia
  obtain⟨k,f,s,_,_,_,rfl⟩:=u.hw x (bA C);have I:=lD N u.hf u.f0.2 (.lst B.roads) (.lst B.wishes) f;have G:br (ag 11) eT (aF (v2 (vv 3) (vv 11))) ((bz (aq B.fams) f).map fun (i:Nat)=>P.int (i:Int)) [c,qp (au B),ql (ce B i),qi (i:Int),qp (.tup [.str k,.str f,.str s]),m,r,t,q,w,a,none] []=some (wA B i,[]):=by
   rw [bM (p:=fun _=>true) (f:=fun v=>.tup [.int (i:Int),v]) (Inv:=fun L=>∃d,L=[c,qp (au B),ql (ce B i),qi (i:Int),qp (.tup [.str k,.str f,.str s]),m,r,t,q,w,a,d]) (fun v E L M=>?_) ⟨none,rfl⟩,dN,List.map_map,A]
   .rfl
   .obtain⟨d,rfl⟩:=M;exact⟨[c,qp (au B),ql (ce B i),qi (i:Int),qp (.tup [.str k,.str f,.str s]),m,r,t,q,w,a,qp v],rfl,⟨_,rfl⟩,rfl,fun _=>by simp⟩
  have H:(bz (aq B.fams) f).length≤1000000:=K;have F:(ce B i).length+(wA B i).length≤1000000:=by lia
  refine⟨[c,qp (au B),ql (ce B i),qi (i:Int),qp (.tup [.str k,.str f,.str s]),m,r,t,q,w,a],[c,qp (au B),ql (ce B (i+1)),qi (i:Int),qp (.tup [.str k,.str f,.str s]),m,r,t,q,w,a],[],rfl,?_,_,_,rfl,rfl⟩;rw [uh];simp [iN,aY,I,H,jI,G,F]) ⟨j,l,rfl,rfl⟩
 rw [cD,dJ] at e;exact⟨_,_,e⟩
theorem zW (P:Pln B.fams B.roads B.wishes):BE B (.tup [.tup ((aB B.fams).map gn),.tup (List.replicate B.PR.length (.tup []))]):=by refine⟨_,_,rfl,by simp,fun k f x n b=>?_,by simp,fun r q=>⟨[],⟨by simp,fun _ h=>(by cases h)⟩,(pO.mp q).2⟩⟩;rw [List.getElem?_map,n] at b;cases b;obtain⟨v,a,m,e,o,s,F,rfl⟩:=gQ P.hf (bA n);refine⟨v,a,m,e,o,s,rfl,0,e.map nI,List.replicate o.length (.int (-1)),rfl,len_pos F.r0,⟨by simp,fun c p=>?_⟩,by simp,fun w hw=>⟨_,(pO.mp hw).2⟩⟩;obtain⟨d,hd,rfl⟩:=cn.mp p;obtain⟨x,lo,l,t,_,u,g,i,j,rfl⟩:=F.hce.1 d hd;exact⟨t,by lia,rfl⟩
theorem lm.ok (h:lm w q d):dq 3 d=true:=by obtain⟨k,x,r,rfl,_,_,h⟩:=h;exact bQ.mpr h
theorem Bg {n:List P} (hd:∀d ∈ n,∃w q,lm w q d) {h:Int}{s:Str}{d:P} (a:∃w q,lm w q d) (p:f_ h s d=true->d ∈ n) (S:aJ):z7 (.p d) (.p (.lst (n.filter (f_ h s)))) S=some (.bl (f_ h s d)):=by
 have A:((n.filter (f_ h s)).all (dq 19) && dq 19 d)=true:=by
  rw [Bool.and_eq_true];refine⟨bQ.mpr fun x v=>?_,?_⟩
  .obtain⟨w,q,h⟩:=hd x (fu.mp v).1;exact gH h.ok (by lia)
  .obtain⟨w,q,h⟩:=a;exact gH h.ok (by lia)
 have e:(n.filter (f_ h s)).any (fun y=>PyData.eqv (pd y) (pd d))=f_ h s d:=by obtain⟨w,q,a⟩:=a;rw [i6,i9];refine⟨fun z=>?_,fun t=>⟨d,fu.mpr ⟨p t,t⟩,qc _ (fL 20 d (gH a.ok (by lia))).1⟩⟩;obtain⟨y,u,e⟩:=z;obtain⟨b,c⟩:=fu.mp u;obtain⟨i,g,f⟩:=hd y b;rw [<- Cw a f e];exact c
 have m:Gw d (.lst (n.filter (f_ h s)))=some (f_ h s d):=by obtain⟨w,q,a⟩:=a;obtain⟨k,x,r,rfl,_⟩:=a;show (if _ then some _ else none)=_;rw [A,e];rfl
 show (Gw d _).map _=_;rw [m];rfl
theorem Gs {B:BD}{n:Nat} (J:2≤n) {a:List P} (hd:∀d ∈ a,∃w q,lm w q d) {p h:Nat}{k f s:Str} (G:B.wishes[p]? = some (.tup [.str k,.str f,.str s])) (M:PyData.strOk s=true) (r t u j l z o x:Option D) (S:aJ) :
  ∃K m,aZ (ag 10) (iM (Ph n) (Ph (n-1))) (a++[.tup [.str "lose",.int (h:Int),.int 0,.int 0],.tup [.str "double",.int (h:Int),.int 0,.int 0]]) [r,qp (au B),t,u,qp (.tup [.int (p:Int),.int (h:Int)]),o,j,l,z,ql (a.filter (f_ h s)),x] S=some (.nx,[r,qp (au B),t,u,qp (.tup [.int (p:Int),.int (h:Int)]),K,j,l,z,ql (a.filter (f_ h s)),m],S):=by
 obtain⟨N,H,e,K,m,rfl,rfl⟩:=bb (g:=ag 10) (b:=iM (Ph n) (Ph (n-1))) (Inv:=fun _ L H=>∃(o x:Option D),L=[r,qp (au B),t,u,qp (.tup [.int (p:Int),.int (h:Int)]),o,j,l,z,ql (a.filter (f_ h s)),x]/\H=S) (s:=a++[.tup [.str "lose",.int (h:Int),.int 0,.int 0],.tup [.str "double",.int (h:Int),.int 0,.int 0]]) (k:=0) (L:=[r,qp (au B),t,u,qp (.tup [.int (p:Int),.int (h:Int)]),o,j,l,z,ql (a.filter (f_ h s)),x]) (S:=S) (fun i v L H c I=>by
  obtain⟨o,x,rfl,rfl⟩:=I;have c:(∃w q,lm w q v)/\(f_ h s v=true->v ∈ a):=by
   rcases dL.mp (bA c) with c | c
   .exact⟨hd v c,fun _=>c⟩
   .simp only [az,dj,di] at c;rcases c with rfl | rfl
    .exact⟨⟨"lose",fun _=>True,_,_,_,rfl,trivial,.inr ⟨_,rfl⟩,fun y F=>by simp only [az,dj,di] at F;rcases F with rfl | rfl | rfl | rfl <;> simp⟩,fun h=>by simp [f_] at h⟩
    .exact⟨⟨"double",fun _=>True,_,_,_,rfl,trivial,.inr ⟨_,rfl⟩,fun y F=>by simp only [az,dj,di] at F;rcases F with rfl | rfl | rfl | rfl <;> simp⟩,fun h=>by simp [f_] at h⟩
  have A:pureOf (Ph n "done_by") [au B,.tup [.int (p:Int),.int (h:Int)],v]=some (.bl (f_ h s v)):=by obtain⟨⟨w,q,E⟩,_⟩:=c;exact B8 J G M E
  have C:=Bg hd c.1 c.2 H;refine⟨[r,qp (au B),t,u,qp (.tup [.int (p:Int),.int (h:Int)]),o,j,l,z,ql (a.filter (f_ h s)),qp v],[r,qp (au B),t,u,qp (.tup [.int (p:Int),.int (h:Int)]),qp (.bl (f_ h s v)),j,l,z,ql (a.filter (f_ h s)),qp v],H,rfl,?_,_,_,rfl,rfl⟩;unfold iM;rw [al (e:=[r,qp (au B),t,u,qp (.tup [.int (p:Int),.int (h:Int)]),qp (.bl (f_ h s v)),j,l,z,ql (a.filter (f_ h s)),qp v]) (b:=H) (by simp [A])];simp [iG,z6,C]) ⟨o,x,rfl,rfl⟩
 exact⟨_,_,e⟩
theorem BY {B:BD} (X:B=yW B.fams B.roads B.wishes) (M:Pln B.fams B.roads B.wishes) {n:Nat} (hn:20≤n) {st:P} (hS:BE B st) (r t o j q7 z l a:Option D) (S:aJ) :
  ∃H y J F K m,iL (Ph n) (Ph (n-1)) [r,qp (au B),ql (ce B B.wishes.length),t,o,j,qp st,q7,z,l,a] S=some (.nx,[r,qp (au B),ql (ce B B.wishes.length),t,H,y,qp st,J,F,K,m],S):=by
 obtain⟨c,hdl,hd,E,G⟩:=DH X M hn hS;have hq:c.length≤1000000:=by lia
 have I:c.length+2≤1000000:=by lia
 obtain⟨L',u,e,H,y,F,K,m,rfl,rfl⟩:=bb (g:=ag 4) (b:=kf (Ph n) (Ph (n-1))) (Inv:=fun _ L u=>∃(o j z l a:Option D),L=[r,qp (au B),ql (ce B B.wishes.length),t,o,j,qp st,ql c,z,l,a]/\u=S) (s:=ce B B.wishes.length) (k:=0) (L:=[r,qp (au B),ql (ce B B.wishes.length),t,o,j,qp st,ql c,z,l,a]) (S:=S) (fun i v L u A Y=>by
  obtain⟨o,j,z,l,a,rfl,rfl⟩:=Y;obtain⟨p,h,k,f,s,rfl,N,O,C⟩:=G v (vh M (bA A));generalize ce B B.wishes.length=W;have R:br (ag 10) (bV (aH d9 (eV (j5 (vv 10) gI (gm (vi 3)))) (eV (aF (v3 (vt "step") (ab am (vv 4) (vi 1)) (vv 8)))))) (vv 10) c [r,qp (au B),ql W,t,qp (.tup [.int (p:Int),.int (h:Int)]),j,qp st,ql c,qs s,l,none] u=some (c.filter (f_ h s),u):=by rw [bM (p:=f_ h s) (f:=id) (Inv:=fun L=>∃d,L=[r,qp (au B),ql W,t,qp (.tup [.int (p:Int),.int (h:Int)]),j,qp st,ql c,qs s,l,d]) (fun v A L Z=>?_) ⟨none,rfl⟩,List.map_id];obtain⟨d,rfl⟩:=Z;obtain⟨w,q,A⟩:=hd v A;obtain⟨Q,rfl,V⟩:=xX A (h:=h) O;exact⟨[r,qp (au B),ql W,t,qp (.tup [.int (p:Int),.int (h:Int)]),j,qp st,ql c,qs s,l,qp (.tup Q)],rfl,⟨_,rfl⟩,by simp [V],fun _=>by simp⟩
  have T:xG (.lst (c.filter (f_ h s))) (.lst [])=some (c.any (f_ h s)):=by rw [jx (Js fun x hx=>by obtain⟨_,_,h⟩:=hd x (fu.mp hx).1;exact gH h.ok (by lia))];congr 1;rw [i6,i9];simp
  obtain⟨y,m,U⟩:=Gs (n:=n) (by lia) hd (h:=h) N O r (ql W) t (qp st) (ql c) (qs s) (qp (.bl (c.any (f_ h s)))) a u;refine⟨[r,qp (au B),ql W,t,qp (.tup [.int (p:Int),.int (h:Int)]),j,qp st,ql c,z,l,a],[r,qp (au B),ql W,t,qp (.tup [.int (p:Int),.int (h:Int)]),y,qp st,ql c,qs s,ql (c.filter (f_ h s)),m],u,rfl,?_,_,_,_,_,_,rfl,rfl⟩;unfold kf;rw [al (e:=[r,qp (au B),ql W,t,qp (.tup [.int (p:Int),.int (h:Int)]),j,qp st,ql c,qs s,l,a]) (b:=u) (by simp [bw N])];rw [al (e:=[r,qp (au B),ql W,t,qp (.tup [.int (p:Int),.int (h:Int)]),j,qp st,ql c,qs s,ql (c.filter (f_ h s)),a]) (b:=u) (by simp [aY,hq,jI,R])];rw [al (e:=[r,qp (au B),ql W,t,qp (.tup [.int (p:Int),.int (h:Int)]),qp (.bl (c.any (f_ h s))),qp st,ql c,qs s,ql (c.filter (f_ h s)),a]) (b:=u) (by simp [C])];rw [al (e:=[r,qp (au B),ql W,t,qp (.tup [.int (p:Int),.int (h:Int)]),qp (.bl (c.any (f_ h s))),qp st,ql c,qs s,ql (c.filter (f_ h s)),a]) (b:=u) (by simp [iG,z6,T])];rw [bS,gO];simp [I,U]) ⟨o,j,z,l,a,rfl,rfl⟩
 refine⟨H,y,ql c,F,K,m,?_⟩;unfold iL;rw [al (e:=[r,qp (au B),ql (ce B B.wishes.length),t,o,j,qp st,ql c,z,l,a]) (b:=u) (by simp [E])];rw [bS,gO,show (vv 2) [r,qp (au B),ql (ce B B.wishes.length),t,o,j,qp st,ql c,z,l,a] u=some (.lst (ce B B.wishes.length),u) by simp];exact e
theorem DI (Y:30≤n) (s:List Int):pureOf (Ph n "law") [cZ s]=some (.bl true):=by
 obtain⟨n,rfl⟩:=fV (n:=n) (by first | assumption | lia);obtain⟨f,r,w,a,C⟩:=AQ (n:=n+1) (by lia) s;generalize e:yW f r w=B;have l:B.fams=f:=by rw [<- e];rfl
 have z:B.roads=r:=by rw [<- e];rfl
 have hw:B.wishes=w:=by rw [<- e];rfl
 have D:B=yW B.fams B.roads B.wishes:=by rw [l,z,hw,e]
 rw [<- l,<- z,<- hw] at a C;clear e l z hw;have N:=a.wl;obtain⟨q,c,H⟩:=D0 a (n:=n+1) (by lia) (qp (cZ s)) none none none none none none none none;have F:=Cq a (n:=n+1) (by lia);obtain⟨st,o,G⟩:=CI a (n:=n+1) (by lia) s;have I:=zX (n:=n+1) (by lia) a;have j:=zW a;have M:=ko a B.wishes.length;have Q:dq 20 (.lst (ce B B.wishes.length))=true:=Js fun x O=>by obtain⟨p,h,_,_,_,rfl,_⟩:=vh a O;simp
 have W:=yR Q;have J:pureOf (Ph (n+1) "wishes_of") [au B]=some (.lst (ce B B.wishes.length)):=by unfold pureOf;rw [List.map_cons,fW,F];simp
 obtain⟨m,t,v,u,g,b,K⟩:=BY D a (n:=n+1) (by lia) o (qp (cZ s)) q c (some (.ref 0)) none none none none [.lst ((ce B B.wishes.length++[P.tup [.int 0,.int 0]]).map .p)];obtain⟨R,T,U,V,X,E,A⟩:=BY D a (n:=n+1) (by lia) j (qp (cZ s)) q m t v u g b [.lst ((ce B B.wishes.length++[P.tup [.int 0,.int 0]]).map .p)];simp only [j1] at H K A;rw [Bn,aj];show (match rO _ _ [qp (cZ s),none,none,none,none,none,none,none,none,none,none] [] with | some (.rt d,_,S)=>(toP 9 d S).map (fun x=>x.fst) | some (.nx,_,_)=>some .non | _=>none)=some (P.bl true);unfold rO;rw [al (e:=[qp (cZ s),qp (au B),none,none,none,none,none,none,none,none,none]) (b:=[]) (by simp [C])];rw [al (e:=[qp (cZ s),qp (au B),ql [],none,none,none,none,none,none,none,none]) (b:=[]) (by simp)];rw [al (by rw [bS,qJ,show (ab am (vv 1) (vi 2)) [qp (cZ s),qp (au B),ql [],none,none,none,none,none,none,none,none] []=some (.lst B.wishes,[]) by simp];exact H)];rw [al (e:=[qp (cZ s),qp (au B),ql (ce B B.wishes.length),q,c,some (.ref 0),none,none,none,none,none]) (b:=[.lst ((ce B B.wishes.length).map .p)]) (by simp [F])];rw [al (e:=[qp (cZ s),qp (au B),ql (ce B B.wishes.length),q,c,some (.ref 0),none,none,none,none,none]) (b:=[.lst ((ce B B.wishes.length).map .p)]) (by simp [uK,iG,z6,mN,eJ,vM,W])];rw [al (iQ (k:=0) (w:=ce B B.wishes.length) (y:=.tup [.int 0,.int 0]) (e:=[.lst ((ce B B.wishes.length).map .p)]) rfl rfl (by simp) rfl (by lia))];rw [al (e:=[qp (cZ s),qp (au B),ql (ce B B.wishes.length),q,c,some (.ref 0),none,none,none,none,none]) (b:=[.lst ((ce B B.wishes.length++[P.tup [.int 0,.int 0]]).map .p)]) (by simp [J,W])];have L:aZ (ag 6) (iL (Ph (n+1)) (Ph n)) [st,.tup [.tup ((aB B.fams).map gn),.tup (List.replicate B.PR.length (.tup []))]] [qp (cZ s),qp (au B),ql (ce B B.wishes.length),q,c,some (.ref 0),none,none,none,none,none] [.lst ((ce B B.wishes.length++[P.tup [.int 0,.int 0]]).map .p)]=some (.nx,_,_):=(bC (s:=[qp (cZ s),qp (au B),ql (ce B B.wishes.length),q,c,some (.ref 0),qp st,none,none,none,none]) rfl K).trans ((bC (s:=[qp (cZ s),qp (au B),ql (ce B B.wishes.length),q,m,t,qp (.tup [.tup ((aB B.fams).map gn),.tup (List.replicate B.PR.length (.tup []))]),v,u,g,b]) rfl A).trans rfl);have i:pureOf (Ph (n+1) "begin") [au B]=some (.tup [.tup ((aB B.fams).map gn),.tup (List.replicate B.PR.length (.tup []))]):=I;rw [al (by rw [bS,gO,show (aW (v2 (af (pureOf (Ph (n+1) "_law_standing")) (v2 (vv 0) (vv 1))) (af (pureOf (Ph (n+1) "begin")) (v1 (vv 1))))) [qp (cZ s),qp (au B),ql (ce B B.wishes.length),q,c,some (.ref 0),none,none,none,none,none] [.lst ((ce B B.wishes.length++[P.tup [.int 0,.int 0]]).map .p)]=some (.lst [st,.tup [.tup ((aB B.fams).map gn),.tup (List.replicate B.PR.length (.tup []))]],[.lst ((ce B B.wishes.length++[P.tup [.int 0,.int 0]]).map .p)]) by simp [G,i]];exact L)]
 rfl
theorem y3 {s:List Int} (l:s.length≤63) (h:xF H) (S:gY K H a (s.map V.int)):oa K (G' Gv Att Tb 200 "law") [.ref a] H (fun v _=>v=.bl true) (fun _ _ _=>False):=by have e:=DI (n:=200) (by decide) s;unfold Ph at e;exact DJ h S e
end My
namespace PySem.W.Fast
def tw11918275094696624556:Unit:=()
def tw7457551980442496081:Unit:=()
def tw8183762151996668136:Unit:=()
def tw1887811657203656135:Unit:=()
def tw12481570968672075908:Unit:=()
def tw8384880914284313591:Unit:=()
def tw8994666868328460283:Unit:=()
def tw8185759213183010814:Unit:=()
def tw11873771246093495762:Unit:=()
def tw727766570382858658:Unit:=()
def tw10038563773610836229:Unit:=()
def tw1127939787765728980:Unit:=()
def tw5671993794506113846:Unit:=()
def tw14784520992349447337:Unit:=()
def tw16697720194941478945:Unit:=()
def tw9442967168629722920:Unit:=()
def tw14467440853651253805:Unit:=()
def tw11526425894472586263:Unit:=()
def tw3017739322087975936:Unit:=()
def tw16496946342465775012:Unit:=()
def tw9004166899079743465:Unit:=()
def tw11038903813761385836:Unit:=()
def tw850913741395912184:Unit:=()
def tw17471615498158275939:Unit:=()
def tw16597118397607419053:Unit:=()
def tw9962956502236373094:Unit:=()
def tw766735537787274783:Unit:=()
def tw10486653150695252375:Unit:=()
def tw3341917173060855181:Unit:=()
def tw1702915358847857896:Unit:=()
def tw16857805373551756269:Unit:=()
def tw2429660121568004312:Unit:=()
def tw11615931577484392460:Unit:=()
def tw256627656921644528:Unit:=()
def tw10654692547393632450:Unit:=()
def tw14361434098108928489:Unit:=()
def tw11458717361608772958:Unit:=()
def tw11852550488050805986:Unit:=()
def tw2568146105971221723:Unit:=()
def tw11971333908969956387:Unit:=()
def tw5173331288022267586:Unit:=()
def tw1438872986611608079:Unit:=()
def tw11148160372915077316:Unit:=()
def tw6640023778255652478:Unit:=()
def tw5224913616374633103:Unit:=()
def tw8263752757576519761:Unit:=()
def tw16489876519261542465:Unit:=()
def tw17504027290556645146:Unit:=()
def tw17680074897971555091:Unit:=()
def tw13819528379070398207:Unit:=()
def tw6888804996212740393:Unit:=()
def tw5641726132443637492:Unit:=()
def tw10552654244350257790:Unit:=()
def tw14305297436289586589:Unit:=()
def tw12495370511266330347:Unit:=()
def tw7790431750003778871:Unit:=()
def tw1815295188696568356:Unit:=()
def tw18391396409025908385:Unit:=()
def tw8696953163334654529:Unit:=()
def tw2068945356460005562:Unit:=()
def tw15309568752784288820:Unit:=()
def tw8581334424528108368:Unit:=()
def tw3445046611130118663:Unit:=()
def tw14174467786823609596:Unit:=()
def tw11142808541541633683:Unit:=()
def tw15522475844570689614:Unit:=()
def tw12905123111775240547:Unit:=()
def tw1683671943591163396:Unit:=()
def tw8864473242560466313:Unit:=()
def tw15496982238867654545:Unit:=()
def tw5915476229141635219:Unit:=()
def tw12487863917927269060:Unit:=()
def tw16740348487701092464:Unit:=()
def tw2811130166254342789:Unit:=()
def tw5840931892296480961:Unit:=()
def tw11827879788132778561:Unit:=()
def tw12858389013683857884:Unit:=()
def tw5753801246383434120:Unit:=()
def tw4214165412263173768:Unit:=()
def tw16321669757699461529:Unit:=()
def tw18015473798951266890:Unit:=()
def tw12601779348276742317:Unit:=()
def tw11503667810109951250:Unit:=()
def tw9478039365751723627:Unit:=()
def tw6741974547690453991:Unit:=()
def tw14429224191935828275:Unit:=()
def tw1944022427351688415:Unit:=()
def tw5651335099841659772:Unit:=()
def tw6319857555961946304:Unit:=()
def tw5051664889529981609:Unit:=()
def tw1405957740897015640:Unit:=()
def tw4351518873256210081:Unit:=()
def tw12675489478700270936:Unit:=()
def tw10588260813569126387:Unit:=()
def tw11138375803116037641:Unit:=()
def tw9652994334517529884:Unit:=()
def tw14889762021652676590:Unit:=()
def tw10444034959546711353:Unit:=()
def tw1445047230689044774:Unit:=()
def tw13249579938219648846:Unit:=()
def tw16086771286213963970:Unit:=()
def tw5614630495463841634:Unit:=()
def tw4261851012257732010:Unit:=()
def tw7838754630777404807:Unit:=()
def tw670778616972349019:Unit:=()
def tw10131613034573115312:Unit:=()
def tw231112082994170419:Unit:=()
def tw11661730845644645018:Unit:=()
def tw15036142247641312691:Unit:=()
def tw6170135494563639875:Unit:=()
def tw9756188820866140940:Unit:=()
def tw13995459316009505561:Unit:=()
def tw6458505175105654082:Unit:=()
def tw8224494192897429314:Unit:=()
def tw14052239131166836893:Unit:=()
def tw10324308059363222676:Unit:=()
def tw3670201572682141533:Unit:=()
def tw13434287978824454497:Unit:=()
def tw2241352350344452338:Unit:=()
def tw1543855239451897122:Unit:=()
def tw8455759842502249602:Unit:=()
def tw1724897600061980736:Unit:=()
def tw15764077963903144124:Unit:=()
def tw127533153401139862:Unit:=()
def tw9665378131248109744:Unit:=()
def tw14734476642877000131:Unit:=()
def tw16510924893565736698:Unit:=()
def tw12780604189317345275:Unit:=()
def tw3995435014767296632:Unit:=()
def tw10907932658520186765:Unit:=()
def tw12180257464150655352:Unit:=()
def tw4126569682365502936:Unit:=()
def tw16089757171232478616:Unit:=()
def tw6677066072729355218:Unit:=()
def tw9648142647560150080:Unit:=()
def tw209370782173147158:Unit:=()
def tw6733384676738655808:Unit:=()
def tw8075778456168047009:Unit:=()
def tw10892892954169377101:Unit:=()
def tw3262431198735848234:Unit:=()
def tw2105093518946569313:Unit:=()
def tw10089570486220862785:Unit:=()
def tw5457366702618661319:Unit:=()
def tw9233686358702466223:Unit:=()
def tw1612894127746175543:Unit:=()
def tw6163630213187567834:Unit:=()
def tw13027408276043842278:Unit:=()
def tw15253477014247140945:Unit:=()
def tw1102300985827938796:Unit:=()
def tw201545097677899823:Unit:=()
def tw7981835582864619039:Unit:=()
def tw8780234589909978192:Unit:=()
def tw8969790448952314555:Unit:=()
def tw3710412243018498892:Unit:=()
def tw3633301252873880702:Unit:=()
def tw14394538756194420065:Unit:=()
def tw6448630587615545223:Unit:=()
def tw8221642812143905638:Unit:=()
def tw93904356896555007:Unit:=()
def tw18214931231518132324:Unit:=()
def tw17256599848847088467:Unit:=()
def tw11120172971650737922:Unit:=()
def tw6435991834845884720:Unit:=()
def tw9239542644697825197:Unit:=()
def tw6587095811874511970:Unit:=()
def tw2926471821008995069:Unit:=()
def tw8358277348341769147:Unit:=()
def tw14521741824659135942:Unit:=()
def tw13319642819681449440:Unit:=()
def tw16253588345757225594:Unit:=()
def tw444811903965728666:Unit:=()
def tw256551026390349118:Unit:=()
def tw13924997733899774536:Unit:=()
def tw1574315757687678323:Unit:=()
def tw9531972275763029171:Unit:=()
def tw14217108714536270387:Unit:=()
def tw12896929326345438403:Unit:=()
def tw16042795040285943637:Unit:=()
def tw4796738021186976313:Unit:=()
def tw7125061018693945828:Unit:=()
def tw14859418514221552105:Unit:=()
def tw17814737964882487385:Unit:=()
def tw12770345437784569377:Unit:=()
def tw7264254734457991104:Unit:=()
def tw10264918570570215251:Unit:=()
def tw12940777525765759231:Unit:=()
def tw13023416047937148807:Unit:=()
def tw8850025250018357286:Unit:=()
def tw16389993809503461571:Unit:=()
def tw2562106397960851856:Unit:=()
def tw5706408619976105943:Unit:=()
def tw8211494922125060961:Unit:=()
end PySem.W.Fast
open PySem PySem.W PyProof.Rows
set_option maxRecDepth 100000 in
set_option maxHeartbeats 0 in
theorem PySem.Challenge.cw_roadsall_k31_wishes_able_and_done_holds : PySem.Challenge.rw_roadsall_k31_wishes_able_and_done.Holds := by
 w_on;o_law;k_head;(case hw=>w_witness2)
 k_fill
 refine L2.xT (l:=PySem.Challenge.rw_roadsall_k31_wishes_able_and_done) (n:=63) (k:=200) (x:="_law_script") (CX:=L2.pF) (sp:=fun K=>Ev.oa K (Ev.G' My.Gv My.Att My.Tb 200 "law")) rfl (by decide) rfl ⟨rfl,by decide,by decide⟩ (fun w h Y=>PySem.W.kIn_of Y) ?F ?S ?C
 case F=>
  intro w mg fa h KX G hmg
  have T:Ev.TOk w My.Gv My.Att My.Tb (L2.Ko KX) mg:=by
   dsimp only [L2.Ko]
   refine' My.Eb KX G ?ca0 ?cb0 ?cc0 ?cd0' ?ce0 ?cf0 ?cg0 ?na0_0 ?na0_1 ?na0_2 ?na0_3 ?na0_4 ?a0 ?l0 ?c0 ?k0 ?a1 ?l1 ?c1 ?k1 ?a2 ?l2 ?c2 ?k2 ?a3 ?l3 ?c3 ?k3 ?a4 ?l4 ?c4 ?k4 ?a5 ?l5 ?c5 ?k5 ?a6 ?l6 ?c6 ?k6 ?a7 ?l7 ?c7 ?k7 ?a8 ?l8 ?c8 ?k8 ?a9 ?l9 ?c9 ?k9 ?a10 ?l10 ?c10 ?k10 ?a11 ?l11 ?c11 ?k11 ?a12 ?l12 ?c12 ?k12 ?a13 ?l13 ?c13 ?k13 ?a14 ?l14 ?c14 ?k14 ?a15 ?l15 ?c15 ?k15 ?a16 ?l16 ?c16 ?k16 ?a17 ?l17 ?c17 ?k17 ?a18 ?l18 ?c18 ?k18 ?a19 ?l19 ?c19 ?k19 ?a20 ?l20 ?c20 ?k20 ?a21 ?l21 ?c21 ?k21 ?a22 ?l22 ?c22 ?k22 ?a23 ?l23 ?c23 ?k23 ?a24 ?l24 ?c24 ?k24 ?a25 ?w25 ?l25 ?c25 ?k25 ?a26 ?l26 ?c26 ?k26 ?a27 ?l27 ?c27 ?k27 ?a28 ?l28 ?c28 ?k28 ?a29 ?l29 ?c29 ?k29 ?a30 ?w30 ?l30 ?c30 ?k30 ?a31 ?l31 ?c31 ?k31 ?a32 ?l32 ?c32 ?k32 ?a33 ?l33 ?c33 ?k33 ?a34 ?l34 ?c34 ?k34 ?a35 ?l35 ?c35 ?k35 ?a36 ?l36 ?c36 ?k36 ?a37 ?l37 ?c37 ?k37 ?a38 ?l38 ?c38 ?k38 ?a39 ?l39 ?c39 ?k39 ?a40 ?w40 ?l40 ?c40 ?k40 ?a41 ?l41 ?c41 ?k41 ?a42 ?l42 ?c42 ?k42 ?a43 ?l43 ?c43 ?k43 ?a44 ?l44 ?c44 ?k44 ?a45 ?l45 ?c45 ?k45 ?a46 ?l46 ?c46 ?k46 ?glb0 ?glb1 ?z
   (case ca0=>k_is)
   (case cb0=>k_is)
   (case cc0=>k_is)
   (case cd0'=>k_is)
   (case ce0=>k_is)
   (case cf0=>k_is)
   (case cg0=>k_is)
   (case na0_0=>k_is)
   (case na0_1=>k_is)
   (case na0_2=>k_is)
   (case na0_3=>k_is)
   (case na0_4=>k_is)
   (case a0=>k_is)
   (case l0=>k_is)
   (case c0=>k_is)
   (case k0=>k_is)
   (case a1=>k_is)
   (case l1=>k_is)
   (case c1=>k_is)
   (case k1=>k_is)
   (case a2=>k_is)
   (case l2=>k_is)
   (case c2=>k_is)
   (case k2=>k_is)
   (case a3=>k_is)
   (case l3=>k_is)
   (case c3=>k_is)
   (case k3=>k_is)
   (case a4=>k_is)
   (case l4=>k_is)
   (case c4=>k_is)
   (case k4=>k_is)
   (case a5=>k_is)
   (case l5=>k_is)
   (case c5=>k_is)
   (case k5=>k_is)
   (case a6=>k_is)
   (case l6=>k_is)
   (case c6=>k_is)
   (case k6=>k_is)
   (case a7=>k_is)
   (case l7=>k_is)
   (case c7=>k_is)
   (case k7=>k_is)
   (case a8=>k_is)
   (case l8=>k_is)
   (case c8=>k_is)
   (case k8=>k_is)
   (case a9=>k_is)
   (case l9=>k_is)
   (case c9=>k_is)
   (case k9=>k_is)
   (case a10=>k_is)
   (case l10=>k_is)
   (case c10=>k_is)
   (case k10=>k_is)
   (case a11=>k_is)
   (case l11=>k_is)
   (case c11=>k_is)
   (case k11=>k_is)
   (case a12=>k_is)
   (case l12=>k_is)
   (case c12=>k_is)
   (case k12=>k_is)
   (case a13=>k_is)
   (case l13=>k_is)
   (case c13=>k_is)
   (case k13=>k_is)
   (case a14=>k_is)
   (case l14=>k_is)
   (case c14=>k_is)
   (case k14=>k_is)
   (case a15=>k_is)
   (case l15=>k_is)
   (case c15=>k_is)
   (case k15=>k_is)
   (case a16=>k_is)
   (case l16=>k_is)
   (case c16=>k_is)
   (case k16=>k_is)
   (case a17=>k_is)
   (case l17=>k_is)
   (case c17=>k_is)
   (case k17=>k_is)
   (case a18=>k_is)
   (case l18=>k_is)
   (case c18=>k_is)
   (case k18=>k_is)
   (case a19=>k_is)
   (case l19=>k_is)
   (case c19=>k_is)
   (case k19=>k_is)
   (case a20=>k_is)
   (case l20=>k_is)
   (case c20=>k_is)
   (case k20=>k_is)
   (case a21=>k_is)
   (case l21=>k_is)
   (case c21=>k_is)
   (case k21=>k_is)
   (case a22=>k_is)
   (case l22=>k_is)
   (case c22=>k_is)
   (case k22=>k_is)
   (case a23=>k_is)
   (case l23=>k_is)
   (case c23=>k_is)
   (case k23=>k_is)
   (case a24=>k_is)
   (case l24=>k_is)
   (case c24=>k_is)
   (case k24=>k_is)
   (case a25=>k_is)
   (case w25=>k_is)
   (case l25=>k_is)
   (case c25=>k_is)
   (case k25=>k_is)
   (case a26=>k_is)
   (case l26=>k_is)
   (case c26=>k_is)
   (case k26=>k_is)
   (case a27=>k_is)
   (case l27=>k_is)
   (case c27=>k_is)
   (case k27=>k_is)
   (case a28=>k_is)
   (case l28=>k_is)
   (case c28=>k_is)
   (case k28=>k_is)
   (case a29=>k_is)
   (case l29=>k_is)
   (case c29=>k_is)
   (case k29=>k_is)
   (case a30=>k_is)
   (case w30=>k_is)
   (case l30=>k_is)
   (case c30=>k_is)
   (case k30=>k_is)
   (case a31=>k_is)
   (case l31=>k_is)
   (case c31=>k_is)
   (case k31=>k_is)
   (case a32=>k_is)
   (case l32=>k_is)
   (case c32=>k_is)
   (case k32=>k_is)
   (case a33=>k_is)
   (case l33=>k_is)
   (case c33=>k_is)
   (case k33=>k_is)
   (case a34=>k_is)
   (case l34=>k_is)
   (case c34=>k_is)
   (case k34=>k_is)
   (case a35=>k_is)
   (case l35=>k_is)
   (case c35=>k_is)
   (case k35=>k_is)
   (case a36=>k_is)
   (case l36=>k_is)
   (case c36=>k_is)
   (case k36=>k_is)
   (case a37=>k_is)
   (case l37=>k_is)
   (case c37=>k_is)
   (case k37=>k_is)
   (case a38=>k_is)
   (case l38=>k_is)
   (case c38=>k_is)
   (case k38=>k_is)
   (case a39=>k_is)
   (case l39=>k_is)
   (case c39=>k_is)
   (case k39=>k_is)
   (case a40=>k_is)
   (case w40=>k_is)
   (case l40=>k_is)
   (case c40=>k_is)
   (case k40=>k_is)
   (case a41=>k_is)
   (case l41=>k_is)
   (case c41=>k_is)
   (case k41=>k_is)
   (case a42=>k_is)
   (case l42=>k_is)
   (case c42=>k_is)
   (case k42=>k_is)
   (case a43=>k_is)
   (case l43=>k_is)
   (case c43=>k_is)
   (case k43=>k_is)
   (case a44=>k_is)
   (case l44=>k_is)
   (case c44=>k_is)
   (case k44=>k_is)
   (case a45=>k_is)
   (case l45=>k_is)
   (case c45=>k_is)
   (case k45=>k_is)
   (case a46=>k_is)
   (case l46=>k_is)
   (case c46=>k_is)
   (case k46=>k_is)
   (case glb0=>k_is)
   (case glb1=>k_is)
   case z=>
    intro x hx
    simp only [Ev.By,List.mem_cons,List.not_mem_nil,or_false] at hx
    rcases hx with rfl | rfl | rfl | rfl | rfl | rfl | rfl | rfl | rfl | rfl | rfl | rfl | rfl | rfl | rfl | rfl | rfl | rfl | rfl <;> k_is
  obtain⟨f,fd,h1⟩:=T.fn My.ri (by simp [My.Tb])
  have e0:=hmg.symm.trans (h1.gl (by decide +kernel))
  cases e0
  refine⟨fd,?_,fun base kb nb=>((Ev.wd T 200).1 My.ri (by simp [My.Tb]) _ fd h1.fn)⟩
  obtain⟨oc,od,kV,doc,pm,an,cdv,ct,osl,rfl,lk,hcd⟩:=h1.fn.ex
  exact fun s v=>.of_eq rfl
 case S=>exact fun w H a ns hl hO hS=>My.y3 hl hO hS
 case C=>exact fun _ _ _ _ z=>z
