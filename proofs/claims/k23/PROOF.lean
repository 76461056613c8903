import PyProof.Rows.All
import Wide.All
import OpenK.AllK
import Wide.FinOn
import Lean
import PyProof.EqAt
import PyProof.EqKinds
import PyProof.TupleCall
import PySem.Challenge.RW_roadsall_k23_whole_own_steps_go_past
set_option Elab.async false
set_option linter.all false
set_option maxRecDepth 100000
set_option maxHeartbeats 4000000
set_option tactic.hygienic false
noncomputable section
abbrev VP:=PySem.Value->PySem.Shared->Prop
abbrev PN:=List (PySem.Addr×PySem.Obj)
abbrev SV:=PySem.Str->Option PySem.Value
abbrev Aa:=PySem.Addr->Prop
abbrev LS:=List PySem.Str
abbrev LV:=List PySem.Value
abbrev Ab:=List PySem.Expr
abbrev OV:=Option PySem.Value
abbrev FG:=PySem.W.Frag
abbrev aS:=@List.mem_cons_of_mem
abbrev a6:=@List.getElem?_set_ne
abbrev bH:=@List.mem_of_getElem?
abbrev cK:=@List.getElem?_eq_getElem
abbrev bc:=@List.length_cons
abbrev bj:=@List.all_eq_true
abbrev aM:=@Nat.le_trans
abbrev bq:=@List.mem_cons
abbrev dD:=@List.getElem?_set_self
abbrev cJ:=@List.length_append
abbrev a9:=@List.length_map
abbrev bO:=@Bool.false_ne_true
abbrev aX:=@List.mem_map
abbrev br:=@decide_eq_false
abbrev cj:=@Nat.lt_of_lt_of_le
abbrev bN:=@List.cons.injEq
abbrev cw:=@List.mem_flatMap
abbrev dw:=@List.replicate_succ
abbrev fB:=@List.getElem?_append_right
abbrev e_:=@List.mem_append_right
abbrev b0:=@Nat.ne_of_lt
abbrev dZ:=@Int.emod_lt_of_pos
abbrev du:=@List.mem_append
abbrev dt:=@Int.emod_nonneg
abbrev fA:=@List.mem_append_left
abbrev cE:=@Nat.ne_of_gt
abbrev dF:=@List.mem_range
abbrev iA:=@List.getD_eq_getElem?_getD
abbrev eZ:=@List.not_mem_nil
abbrev c6:=@Int.zero_add
abbrev fY:=@List.mem_singleton
abbrev iz:=@List.getElem?_take_of_lt
abbrev hJ:=@List.length_filter_le
abbrev eY:=@List.length_set
abbrev dY:=@List.all_cons
abbrev j':=@List.eq_nil_of_length_eq_zero
abbrev fy:=@List.mem_filter
abbrev iy:=@List.set_getElem_self
abbrev iw:=@List.pairwise_flatMap
abbrev fX:=@List.nil_append
abbrev eN:=@Nat.zero_add
abbrev gE:=@List.getElem_mem
abbrev hG:=@List.flatten_cons
abbrev hE:=@List.flatMap_cons
abbrev gD:=@List.foldl_cons
abbrev cD:=@and_true
abbrev j_:=@Option.map_eq_some_iff
abbrev iu:=@List.length_take
abbrev gC:=@List.any_cons
abbrev j9:=@beq_eq_false_iff_ne
abbrev j8:=@List.filterMap_cons
abbrev nr:=@PyProof.Rows.callWith_type1
abbrev gB:=@List.map_nil
abbrev i_:=@PySem.wpAny_truthy_bool
abbrev ir:=@decide_eq_true
abbrev j7:=@Nat.add_sub_cancel
abbrev ll:=@PySem.F.slot_dict_get
abbrev i9:=@List.find?_cons
abbrev i8:=@Bool.or_eq_true
abbrev j6:=@List.pairwise_map
abbrev lj:=@List.mem_iff_getElem
abbrev li:=@Array.length_toList
abbrev j5:=@List.nodup_range
abbrev nq:=@List.filter_cons_of_pos
abbrev np:=@List.filter_cons_of_neg
abbrev j4:=@PySem.Calls.spliced_nil
abbrev lh:=@Nat.lt_of_le_of_lt
abbrev iq:=@Nat.le_of_lt
abbrev nl:=@List.filter_eq_nil_iff
abbrev eX:=@or_false
abbrev i7:=@Nat.lt_irrefl
abbrev lg:=@PySem.wpAny_Call_Name_kw
abbrev lf:=@PySem.tupleKind_room_in1
abbrev j3:=@PySem.wpAny_loadPart'
abbrev lc:=@Option.bind_some
abbrev qq:=@List.mem_of_find?_eq_some
abbrev qo:=@List.getElem?_eq_none_iff
abbrev nj:=@PySem.mem_of_lookup
abbrev ni:=@List.mem_filterMap
abbrev i6:=@Sum.inr.inj
abbrev qm:=@PySem.F.slot_tuple_mul
abbrev qk:=@PySem.F.entry_dict_get
abbrev j1:=@List.map_map
abbrev j0:=@PyProof.Rows.slot_tuple_getitem
abbrev nh:=@List.flatMap_map
abbrev lb:=@Int.ofNat.inj
abbrev qj:=@PySem.SeqAt.eqv_refl
abbrev qh:=@List.mem_of_mem_take
abbrev qg:=@List.filter_eq_self
abbrev k_:=@Nat.lt_trans
abbrev jZ:=@beq_iff_eq
abbrev qf:=@List.mem_replicate
abbrev ng:=@PySem.wpAny_passesOwn
abbrev uU:=@List.pairwise_iff_getElem
abbrev qe:=@PySem.Heap.SameBut.update
abbrev uT:=@PySem.F.args_tuple_add_2
abbrev uS:=@PySem.F.plainAttrs_list
abbrev uR:=@PySem.F.plainAttrs_dict
abbrev uQ:=@PySem.F.entry_tuple_add
abbrev qd:=@Nat.lt_succ_self
abbrev mV:=@List.take_length
abbrev mU:=@List.lookup_cons
abbrev mS:=@List.isEmpty_iff
abbrev qL:=@List.getElem?_replicate
abbrev mR:=@List.any_eq_true
abbrev qK:=@PySem.F.slot_tuple_add
abbrev jz:=@PySem.sizeLine_eq
abbrev mQ:=@List.find?_some
abbrev mP:=@List.filter_map
abbrev mO:=@Bool.eq_iff_iff
abbrev qJ:=@List.getElem?_eq_none
abbrev qI:=@List.pairwise_append
abbrev qH:=@List.mem_of_mem_drop
abbrev kA:=@List.map_id
abbrev mN:=@List.drop_zero
abbrev qG:=@PySem.F.slot_zip_getattribute
abbrev kz:=@PySem.wpAny_typeOf
abbrev ky:=@PySem.call_meetsIn
abbrev qF:=@PySem.W.plainGet_of
abbrev qE:=@PySem.W.callWith_K
abbrev qD:=@List.pairwise_cons
abbrev qC:=@PySem.Heap.get?_update_self
abbrev vT:=@List.findIdx?_eq_some_iff_getElem
abbrev jy:=@true_and
abbrev iB:=@if_true
abbrev qB:=@Option.isSome_map
abbrev mM:=@Nat.mul_comm
abbrev qA:=@Nat.le_of_succ_le
abbrev qz:=@List.take_sublist
abbrev qy:=@List.range'_succ
abbrev qx:=@List.length_drop
abbrev qw:=@List.drop_length
abbrev qv:=@List.cons_append
abbrev qu:=@Bool.not_eq_true
abbrev mL:=@Nat.le_succ
namespace L2
open PySem PySem.Spec PyProof.Rows
noncomputable abbrev bB:=Sum Int Str
noncomputable def pN:bB->Value->Bool
 | .inl k,v=>Value.isInt k v
 | .inr x,v=>Value.isStrOf x v
noncomputable def KD(w:World):bB->Int
 | .inl k=>hashInt k
 | .inr x=>hashStr w x
theorem cz:∀{k:bB}{v:Value},pN k v=true->(∃i t,k=Sum.inl i/\v=Value.int i t)\/(∃x t,k=Sum.inr x/\v=Value.str x t)
 | .inl i,v,h=>by obtain⟨t,e⟩:=Value.isInt_shape (k:=i) (v:=v) h;exact .inl ⟨i,t,rfl,e⟩
 | .inr x,v,h=>by obtain⟨t,e⟩:=Value.isStrOf_shape (x:=x) (v:=v) h;exact .inr ⟨x,t,rfl,e⟩
theorem xJ(i:Int)(t:Tok):pN (.inl i) (.int i t)=true:=by simp[pN,Value.isInt]
theorem xI(x:Str)(t:Tok):pN (.inr x) (.str x t)=true:=by simp[pN,Value.isStrOf]
theorem EM(a b:Int):decide ((Sum.inl a:bB)=Sum.inl b)=(a == b):=by
 by_cases e:a=b
 .subst e;simp
 .have h:¬(Sum.inl a:bB)=Sum.inl b:=λq=>e (Sum.inl.inj q);rw[br h];exact(j9.mpr e).symm
theorem EJ(a b:Str):decide ((Sum.inr a:bB)=Sum.inr b)=decide (a=b):=by
 by_cases e:a=b
 .subst e;simp
 .have h:¬(Sum.inr a:bB)=Sum.inr b:=λq=>e (i6 q);rw[br h,br e]
theorem EL(a:Int)(b:Str):decide ((Sum.inl a:bB)=Sum.inr b)=false:=br (λq=>nomatch q)
theorem EK(a:Str)(b:Int):decide ((Sum.inr a:bB)=Sum.inl b)=false:=br (λq=>nomatch q)
def bJ(prog:Program)(w:World):PySem.KeyKind prog w bB where
 is:=pN
 hash:=KD w
 inj:=λv a b c f=>by
  rcases cz c with ⟨i,t,rfl,rfl⟩|⟨x,t,rfl,rfl⟩
  .rcases cz f with ⟨j,u,rfl,e⟩|⟨y,u,rfl,e⟩
   .injection e with s _;rw[s]
   .exact nomatch e
  .rcases cz f with ⟨j,u,rfl,e⟩|⟨y,u,rfl,e⟩
   .exact nomatch e
   .injection e with s _;rw[s]
 byValue:=λk v h=>by rcases cz h with ⟨i,t,rfl,rfl⟩|⟨x,t,rfl,rfl⟩<;>rfl
 pyHash:=λn h=>by
  rcases cz n with ⟨i,t,rfl,rfl⟩|⟨x,t,rfl,rfl⟩
  .exact wpAny_pyHash_int h
  .exact wpAny_pyHash_str h
 eqBool:=λm n h=>by
  rcases cz m with ⟨i,t,rfl,rfl⟩|⟨x,t,rfl,rfl⟩
  .rcases cz n with ⟨j,u,rfl,rfl⟩|⟨y,u,rfl,rfl⟩
   .rw [EM]at h;exact wpAny_eqBool_int h
   .rw [EL]at h;exact SeqAt.EqAt.int_str i t y u _ _ _ _ h
  .rcases cz n with ⟨j,u,rfl,rfl⟩|⟨y,u,rfl,rfl⟩
   .rw [EK]at h;exact SeqAt.EqAt.str_int x t j u _ _ _ _ h
   .rw [EJ]at h;exact wpAny_eqBool_str h
 «strs»:=λk x t v h=>by
  rcases cz h with ⟨i,u,rfl,e⟩|⟨y,u,rfl,e⟩
  .exact nomatch e
  .injection e with s _;subst s;cases v<;>rfl
theorem tK(prog:Program)(w:World)(i:Int)(t:Tok):(bJ prog w).is (.inl i) (.int i t)=true:=xJ i t
theorem tJ(prog:Program)(w:World)(x:Str)(t:Tok):(bJ prog w).is (.inr x) (.str x t)=true:=xI x t
inductive V where
 |non|bl (b:Bool)|int (i:Int)|str (x:Str)|byt (b:Array UInt8)|flt (b:UInt64)|ref (a:Addr)|ty (n:String)
 deriving DecidableEq
def RelV:V->Value->Prop
 | .non,u=>u=Value.none
 | .bl b,u=>u=Value.bool b
 | .int i,u=>∃t,u=Value.int i t
 | .str x,u=>∃t,u=Value.str x t
 | .byt b,u=>∃t,u=Value.bytes b t
 | .flt b,u=>∃t,u=Value.float b t
 | .ref a,u=>u=Value.ref a
 | .ty n,u=>u=Value.type n
abbrev aK:List V->LV->Prop:=Paired RelV
variable{Y:LV}
theorem aK.length(r:aK xs Y):xs.length=Y.length:=Paired.length r
theorem aK.get:∀{xs:List V}{Y:LV}{i:Nat}{x:V},aK xs Y->xs[i]? = some x->∃u,Y[i]? = some u/\RelV x u
 |_,_,_,_,.nil,e=>by simp at e
 |_,_,0,_,.cons r _,e=>by simp at e;subst e;exact⟨_,rfl,r⟩
 |_,_,i+1,x,.cons _ t,e=>by obtain⟨u,z,h2⟩:=aK.get (i:=i) (x:=x) t (by simpa using e);exact⟨u,by simpa using z,h2⟩
variable{u:Value}
theorem aK.set(r:RelV x u):∀{xs:List V}{Y:LV}(i:Nat),aK xs Y->aK (xs.set i x) (Y.set i u)
 |_,_,_,.nil=>.nil
 |_,_,0,.cons _ t=>.cons r t
 |_,_,i+1,.cons q t=>.cons q (aK.set r i t)
theorem aK.append:∀{xs ys:List V}{Y w:LV},aK xs Y->aK ys w->aK (xs++ys) (Y++w)
 |_,_,_,_,.nil,s=>s
 |_,_,_,_,.cons r t,s=>.cons r (aK.append t s)
theorem aK.take:∀{xs:List V}{Y:LV}(n:Nat),aK xs Y->aK (xs.take n) (Y.take n)
 |_,_,0,_=>.nil
 |_,_,_+1,.nil=>.nil
 |_,_,n+1,.cons r t=>.cons r (aK.take n t)
theorem aK.drop:∀{xs:List V}{Y:LV}(n:Nat),aK xs Y->aK (xs.drop n) (Y.drop n)
 |_,_,0,r=>r
 |_,_,_+1,.nil=>.nil
 |_,_,n+1,.cons _ t=>aK.drop n t
theorem aK.none_of:∀{xs:List V}{Y:LV}{i:Nat},aK xs Y->xs[i]? = none->Y[i]? = none:=λ{xs Y i} r e=>by have z:=r.length;have h2:xs.length≤i:=qo.mp e;exact qo.mpr (by lia)
def i4:Option V->OV->Prop
 |some v,some u=>RelV v u
 |none,none=>True
 |_,_=>False
def KV:List (κ×V)->List (κ×Value)->Prop:=Paired λ(p:κ×V)(q:κ×Value)=>p.1=q.1/\RelV p.2 q.2
noncomputable def kV:bB->V
 | .inl i=>.int i
 | .inr x=>.str x
def lW(h:Heap)(a:Addr)(i:Array Value):Prop:=∃o,h.get? a=some o/\(o.cls=.type "tuple"/\∃n,o.data=.seq i n)/\o.dict=none
variable{h:Heap}{a:Addr}
theorem lW.tup(x:lW h a N):IsTup h a N:=by obtain⟨o,e,c,_⟩:=x;exact⟨o,e,c⟩
theorem lW.lt(x:lW h a N):a < h.objs.size:=x.tup.lt
theorem lW.new(h:Heap)(i:Array Value):lW (h.push { cls:=.type "tuple",data:=.seq i }) h.objs.size i:=⟨_,Heap.get?_push_size _ rfl,⟨rfl,_,rfl⟩,rfl⟩
inductive HO where
 |lst (xs:List V)
 |tup (xs:List V)
 |dK (kvs:List (bB×V))|dT (kvs:List (List bB×V))
 |set (S:Int->Bool) (n:Nat)
 |ins (C dx:Addr) (fs:List (Str×V))
 |own (x:Addr)
 |xd (fs:List (Str×V))
 |met (f x:Addr)
 |rng (lo hi:Int)
 |frz (o:Obj) (u:HO)
 |tbl (ps:Array Value)
 |ext (φ:Heap->Prop)
noncomputable abbrev Hp:=Addr->Option HO
noncomputable def cg(H:Hp)(a:Addr)(o:HO):Hp:=λb=>if b=a then some o else H b
variable{H:Hp}
theorem aJ:cg H a o a=some o:=by unfold cg;rw[if_pos rfl]
variable{b:Addr}
theorem av(h:b≠a):cg H a o b=H b:=by unfold cg;rw[if_neg h]
theorem Hm{H:Hp}{a b:Addr}{o u:HO}(h:H a=some o)(h':H b=some u)(d:o≠u):a≠b:=by intro e;subst e;rw[h]at h';exact d (Option.some.inj h')
theorem cH(h:H a=some o)(h':H b=none):a≠b:=by intro e;subst e;rw[h]at h';cases h'
section
variable(P:Program)(w:World)
def cZ(H:Hp)(h:Heap)(a:Addr):HO->Prop
 | .lst xs=>xs.length≤sizeLine/\∃(i:LV)(n:Nat),aK xs i/\h.get? a=some { cls:=.type "list",data:=.seq i.toArray n }
 | .tup xs=>xs.length≤sizeLine/\∃i:LV,aK xs i/\lW h a i.toArray
 | .dK j=>j.length≤sizeLine/\(a == sysModules)=false/\∃k,KV j k/\h.DictOf (bJ P w) a k
 | .dT j=>j.length≤sizeLine/\(a == sysModules)=false/\∃xs:List (List bB×Addr×Value),
   Paired (λ(p:List bB×V)(e:List bB×Addr×Value)=>p.1=e.1/\H e.2.1=some (.tup (p.1.map kV))/\RelV p.2 e.2.2) j xs /\
   ∃o es b,h.get? a=some o/\o.ExactDict/\o.data=.dict es b/\es.toList=xs.map (entryOfKey (tupleKind (bJ P w)))/\(xs.map (·.1)).Nodup
 | .set S n=>h.SetOf (intKind P w) a S n
 | .ins C dx fs=>H dx=some (.own a)/\fs.length≤1000/\dx≠a/\h.get? a=some (PySem.W.instObj C dx) /\
   ∃mA,h.Ns1 dx mA/\(∀f,i4 (fs.lookup f) (mA f))/\PySem.Within mA (fs.map (·.1))
 | .own _=>∃o,h.get? a=some o
 | .xd fs=>∃mA,h.Ns1 a mA/\∀f,i4 (fs.lookup f) (mA f)
 | .rng I q=>∃t u v,h.get? a=some { cls:=.type "range",data:=.fields #[.int I t,.int q u,.int 1 v] }
 | .frz o u=>h.get? a=some o/\cZ H h a u
 | .tbl ps=>h.get? a=some { cls:=.none,data:=.fields ps }
 | .met f x=>h.get? a=some (PySem.W.methodObj (.ref f) (.ref x))
 | .ext s=>s h/\(∃o,h.get? a=some o)/\∀z h2:Heap,s z->(∀o,z.get? a=some o->h2.get? a=some o)->s h2
def jJ(H:Hp)(h:Heap):Prop:=∀a o,H a=some o->cZ P w H h a o
end
section
variable{P:Program}{w:World}{H H':Hp}{h h':Heap}{a:Addr}{o:HO}
theorem cZ.lt(x:cZ P w H h a o):a < h.objs.size:=by
 cases o with
 |lst xs=>obtain⟨_,_,_,_,e⟩:=x;exact Heap.lt_size e
 |tup xs=>obtain⟨_,_,_,p⟩:=x;exact p.lt
 |dK j=>obtain⟨_,_,_,_,o,_,_,e,_⟩:=x;exact Heap.lt_size e
 |dT j=>obtain⟨_,_,_,_,o,_,_,e,_⟩:=x;exact Heap.lt_size e
 |set S n=>obtain⟨o,_,_,_,e,_⟩:=x;exact Heap.lt_size e
 |ins C dx fs=>obtain⟨_,_,_,e,_⟩:=x;exact Heap.lt_size e
 |own y=>obtain⟨_,e⟩:=x;exact Heap.lt_size e
 |xd fs=>obtain⟨_,⟨_,_,_,e,_⟩,_⟩:=x;exact Heap.lt_size e
 |rng I q=>obtain⟨_,_,_,e⟩:=x;exact Heap.lt_size e
 |frz b u=>obtain⟨e,_⟩:=x;exact Heap.lt_size e
 |tbl ps=>exact Heap.lt_size (show h.get? a=some _ from x)
 |met f y=>exact Heap.lt_size (show h.get? a=some _ from x)
 |ext s=>obtain⟨_,⟨_,e⟩,_⟩:=x;exact Heap.lt_size e
theorem Paired.mapP:∀{l:List α}{h:List β},Paired F l h->(∀a b,F a b->N a b)->Paired N l h
 |_,_,.nil,_=>.nil
 |_,_,.cons r t,f=>.cons (f _ _ r) (Paired.mapP t f)
theorem cZ.stay(x:cZ P w H h a o)(k:∀b u,(b=a\/H b=some (.own a))->h.get? b=some u->h'.get? b=some u)
  (K:∀b,H b=some (.own a)->H' b=some (.own a)) (A:∀b xs,H b=some (.tup xs)->H' b=some (.tup xs)):cZ P w H' h' a o:=by
 induction o with
 |lst xs=>obtain⟨z,i,n,r,e⟩:=x;exact⟨z,i,n,r,k _ _ (.inl rfl) e⟩
 |tup xs=>obtain⟨z,i,r,m,e,c⟩:=x;exact⟨z,i,r,m,k _ _ (.inl rfl) e,c⟩
 |dK j=>obtain⟨z,y,E,r,m,es,g,e,c⟩:=x;exact⟨z,y,E,r,m,es,g,k _ _ (.inl rfl) e,c⟩
 |dT j=>obtain⟨z,y,xs,r,m,es,g,e,c⟩:=x;exact⟨z,y,xs,Paired.mapP r λp s z=>⟨z.1,A _ _ z.2.1,z.2.2⟩,m,es,g,k _ _ (.inl rfl) e,c⟩
 |set S n=>obtain⟨m,es,g,t,e,c⟩:=x;exact⟨m,es,g,t,k _ _ (.inl rfl) e,c⟩
 |ins C dx fs=>obtain⟨d,z,D,e,mA,⟨l,es,g,F,c⟩,r⟩:=x;exact⟨K _ d,z,D,k _ _ (.inl rfl) e,mA,⟨l,es,g,k _ _ (.inr d) F,c⟩,r⟩
 |own y=>obtain⟨m,e⟩:=x;exact⟨m,k _ _ (.inl rfl) e⟩
 |xd fs=>obtain⟨mA,⟨l,es,g,e,c⟩,r⟩:=x;exact⟨mA,⟨l,es,g,k _ _ (.inl rfl) e,c⟩,r⟩
 |rng I q=>obtain⟨t,u,v,e⟩:=x;exact⟨t,u,v,k _ _ (.inl rfl) e⟩
 |frz m u B=>obtain⟨e,s⟩:=x;exact⟨k _ _ (.inl rfl) e,B s⟩
 |tbl ps=>have e:h.get? a=some { cls:=.none,data:=.fields ps }:=x;show h'.get? a=some { cls:=.none,data:=.fields ps };exact k a _ (.inl rfl) e
 |met f y=>have e:h.get? a=some (PySem.W.methodObj (.ref f) (.ref y)):=x;show h'.get? a=some (PySem.W.methodObj (.ref f) (.ref y));exact k a _ (.inl rfl) e
 |ext G=>obtain⟨p,⟨o,e⟩,st⟩:=x;exact⟨st _ _ p λo s=>k _ _ (.inl rfl) s,⟨o,k _ _ (.inl rfl) e⟩,st⟩
theorem jJ.lt(x:jJ P w H h)(e:H a=some o):a < h.objs.size:=(x a o e).lt
theorem jJ.fresh(x:jJ P w H h)(e:h.objs.size≤a):H a=none:=by
 cases q:H a with
 |none=>rfl
 |some u=>exact absurd (cj (x.lt q) e) (i7 _)
theorem jJ.kept(x:jJ P w H h)(k:∀b u,h.get? b=some u->h'.get? b=some u):jJ P w H h':=λa o e=>
 (x a o e).stay (λb u _ q=>k b u q) (λ_ q=>q) λ_ _ q=>q
theorem jJ.laid(x:jJ P w H h)(k:∀b u,h.get? b=some u->h'.get? b=some u)(p:h.objs.size≤a)(n:cZ P w (cg H a o) h' a o):jJ P w (cg H a o) h':=λb u e=>by
 have f:=x.fresh p;by_cases s:b=a
 .subst s;rw[aJ]at e;cases e;exact n
 .rw [av s]at e;exact(x b u e).stay (λc v _ q=>k c v q) (λc q=>by rw[av (cH q f)];exact q) λc xs q=>by rw[av (cH q f)];exact q
end
def Rd(H:Hp)(a:Addr)(u:HO):Prop:=H a=some u\/∃o,H a=some (.frz o u)
theorem Rd.ok{P:Program}{w:World}{H:Hp}{h:Heap}{a:Addr}{u:HO}(r:Rd H a u)(x:jJ P w H h):cZ P w H h a u:=by
 rcases r with r|⟨o,r⟩
 .exact x a u r
 .obtain⟨_,q⟩:=x a _ r;exact q
def Iz:Option HO->Prop
 |some (.lst _)=>True
 |some (.dK _)=>True
 |some (.dT _)=>True
 |some (.set _ _)=>True
 |some (.ins _ _ _)=>True
 |some (.ext _)=>True
 |_=>False
section
variable{P:Program}{w:World}{H:Hp}{h h':Heap}{x e:Addr}{o':HO}
theorem jJ.write(ok:jJ P w H h)(m:Iz (H x))(d:e=x\/H e=some (.own x))(k:∀b u,b≠e->h.get? b=some u->h'.get? b=some u)(o:∃u,h'.get? e=some u)
  (p:cZ P w (cg H x o') h' x o'):jJ P w (cg H x o') h':=λb u q=>by
 have n:∀c y,H c=some (.own y)->c≠x:=λc y r z=>by subst z;rw[r]at m;exact m
 have t:∀c xs,H c=some (.tup xs)->c≠x:=λc xs r z=>by subst z;rw[r]at m;exact m
 by_cases s:b=x
 .subst s;rw[aJ]at q;cases q;exact p
 .rw [av s]at q;by_cases a:b=e
  .have g:H b=some (.own x):=by
    rcases d with z|z
    .exact absurd (a.trans z) s
    .rw [a];exact z
   rw[q]at g;cases g;obtain⟨v,i⟩:=o;exact⟨v,by rw[a];exact i⟩
  .refine (ok b u q).stay (λc v f r=>k c v ?_ r) (λc r=>by rw[av (n c b r)];exact r) λc xs r=>by rw[av (t c xs r)];exact r
   rcases f with rfl|f
   .exact a
   .rintro rfl;rcases d with z|z
    .exact n c b f z
    .rw [f]at z;cases z;exact s rfl
end
structure Un(fs ex:List Addr)(H H':Hp)(h h':Heap):Prop where
 keep:∀b o,h.get? b=some o->H b=none->b ∉ fs->b ∉ ex->h'.get? b=some o
 slot:∀b o,h.get? b=some o->H b=none->b ∈ fs->b ∉ ex->∃sl,h'.get? b=some { o with slots:=sl }
 free:∀b o,h.get? b=some o->H b=none->b ∉ ex->H' b=none
 there:∀b o,h.get? b=some o->b ∉ ex->∃o',h'.get? b=some o'
 tups:∀b xs,H b=some (.tup xs)->H' b=some (.tup xs)
 frzs:∀b o u,H b=some (.frz o u)->H' b=some (.frz o u)
 tbls:∀b ps,H b=some (.tbl ps)->∃more,H' b=some (.tbl (ps++more))
section
variable{fs fs' ex ex':List Addr}{H U H2:Hp}{h z h2 h':Heap}{a x e:Addr}{o:HO}
theorem Un.any(u:Un fs ex H U h z)(q:h.get? b=some N)(n:H b=none)(a:b ∉ ex):∃s,z.get? b=some { N with slots:=s }:=by
 by_cases x:b ∈ fs
 .exact u.slot b N q n x a
 .exact⟨N.slots,u.keep b N q n x a⟩
theorem Un.kept(k:∀b u,h.get? b=some u->h'.get? b=some u):Un fs ex H H h h':=
 ⟨λb o q _ _ _=>k b o q,λb o q _ _ _=>⟨o.slots,k b o q⟩,λ_ _ _ n _=>n,λb o q _=>⟨o,k b o q⟩,λ_ _ q=>q,λ_ _ _ q=>q,λ_ ps q=>⟨#[],by rw[q];simp⟩⟩
theorem Un.refl:Un fs ex H H h h:=Un.kept λ_ _ q=>q
theorem Un.laid(k:∀b u,h.get? b=some u->h'.get? b=some u)(p:h.objs.size≤a)(x:H a=none):Un fs ex H (cg H a o) h h' where
 keep:=λb u q _ _ _=>k b u q
 slot:=λb u q _ _ _=>⟨u.slots,k b u q⟩
 free:=λb u q n _=>by rw[av (b0 (cj (Heap.lt_size q) p))];exact n
 there:=λb u q _=>⟨u,k b u q⟩
 tups:=λb xs q=>by rw[av (cH q x)];exact q
 frzs:=λb u xs q=>by rw[av (cH q x)];exact q
 tbls:=λb ps q=>⟨#[],by rw[av (cH q x),q];simp⟩
theorem Un.write(m:Iz (H x))(p:e=x\/H e=some (.own x))(k:∀b u,b≠e->h.get? b=some u->h'.get? b=some u)(s:∃u,h'.get? e=some u):Un fs ex H (cg H x o) h h':=by
 have t:∀b,H b=none->b≠x:=λb n z=>by subst z;rw[n]at m;exact m
 have c:∀b,H b=none->b≠e:=λb n z=>by
  subst z;rcases p with r|r
  .exact t b n r
  .rw [n]at r;cases r
 have f:∀b u,H b=some u->¬Iz (some u)->b≠x:=λb u q nm z=>by subst z;rw[q]at m;exact nm m
 refine⟨fun b u q n _ _=>k b u (c b n) q,fun b u q n _ _=>⟨u.slots,k b u (c b n) q⟩,fun b u q n _=>by rw [av (t b n)];exact n,fun b u q _=>?_,
  λb xs q=>by rw[av (f b _ q λz=>z)];exact q,λb u xs q=>by rw[av (f b _ q λz=>z)];exact q,λb ps q=>⟨#[],by rw[av (f b _ q λz=>z),q];simp⟩⟩
 by_cases a:b=e
 .subst a;exact s
 .exact⟨u,k b u a q⟩
end
noncomputable def trk(h:Heap)(H:Hp):List Addr:=(List.range h.objs.size).filter λa=>(H a).isSome
def rL(h:Heap)(H:Hp):Heap:=PySem.W.hideAll h (trk h H)
theorem xP(h:Heap)(H:Hp):(rL h H).objs.size=h.objs.size:=PySem.W.hideAll_size _ _
variable{o:Obj}
theorem z5(e:h.get? b=some o)(n:H b=none):(rL h H).get? b=some o:=
 PySem.W.hideAll_get _ e λm=>by have q:(H b).isSome=true:=(fy.mp m).2;rw[n]at q;simp at q
theorem BM(e:(rL h H).get? b=some o):h.get? b=some o/\H b=none:=by
 have a:h.get? b=some o:=PySem.W.of_hideAll (trk h H) e;refine⟨a,?_⟩;cases q:H b with
 |none=>rfl
 |some x=>have m:b ∈ trk h H:=fy.mpr ⟨dF.mpr (Heap.lt_size a),by simp[q]⟩;have z:(rL h H).get? b=none:=PySem.W.hideAll_none (trk h H) m;rw[z]at e;cases e
noncomputable def jE(g h:Heap)(L:Addr):PN:=(List.range h.objs.size).filterMap λa=>if a=L\/(g.get? a).isSome=true then none else (h.get? a).map λo=>(a,o)
variable{g:Heap}{L:Addr}
theorem tL(z:a≠L)(h2:g.get? a=none)(x:h.get? a=some o):(a,o) ∈ jE g h L:=
 ni.mpr ⟨a,dF.mpr (Heap.lt_size x),by simp[z,h2,x]⟩
set_option tactic.hygienic true in
theorem nN(x:p ∈ jE g h L):p.1≠L/\g.get? p.1=none/\h.get? p.1=some p.2:=by
 obtain⟨b,_,e⟩:=ni.mp x;split at e
 .cases e
 .rename_i n;cases q:h.get? b with
  |none=>rw[q]at e;simp at e
  |some u=>
   rw[q]at e;simp only[Option.map_some,Option.some.injEq]at e;subst e;refine⟨λz=>n (.inl z),?_,q⟩;show g.get? b=none;cases r:g.get? b with
   |none=>rfl
   |some v=>exact(n (.inr (by simp[r]))).elim
def ck(g h:Heap)(L d:Addr):PN:=(jE g h L).filter λp=>decide (p.1≠d)
theorem zA:News g L h (jE g h L):=λp x=>let ⟨a,b,c⟩:=nN x;⟨c,a,b⟩
structure Mod(K:FG)(mg:SV)(base:Heap):Prop where
 kin:K.In base
 glob:base.Ns mainGlobals mg
 blt:∃mb,base.Ns builtinsNs mb/\∀x:Str,x≠"__name__"->mb x=bootBuiltins x
 nolimit:base.NoLimit
structure Cx where
 prog:Program
 w:World
 K:FG
 mg:SV
 base:Heap
 A:Around
 N:LS
 s₀:Shared
 H₀:Hp
 env:Env
 outer:List Env
 stack:List Env
 ex:List Addr
 fn:Str->Bool
 calm:Bool
 pn:PN
 xe:VP
noncomputable def Ae(l:List Env):List Addr:=l.filterMap (·.frame)
abbrev Cx.fs(X:Cx):List Addr:=Ae X.outer
def Fk(sc:Scope)(x:Str):Prop:=sc.names.lookup x=some .local\/sc.names.lookup x=some .cell\/sc.names.lookup x=some .free
def Loc(sc:Scope)(x:Str):Prop:=sc.names.lookup x=some .local\/sc.names.lookup x=some .cell
def Look(e:Env)(h:Heap)(m:SV)(x:Str)(u:Value):Prop:=
 (e.kindOf x=some .local/\m x=some u)\/((e.kindOf x=some .cell\/e.kindOf x=some .free)/\∃c,e.cells.lookup x=some c/\h.IsCell c (some u))
structure Cx.Ok(X:Cx):Prop where
 mod:Mod X.K X.mg X.base
 kind:X.env.scope.kind=.function
 glob:X.env.globals=mainGlobals
 blt:X.env.builtins=builtinsNs
 above:X.s₀.heap.objs.size≤X.env.locals
 inj:∀x y c,X.env.cells.lookup x=some c->X.env.cells.lookup y=some c->x=y
 has:∀x,(X.env.kindOf x=some .cell\/X.env.kindOf x=some .free)->∃c,X.env.cells.lookup x=some c
 cab:∀x c,X.fn x=true->X.env.cells.lookup x=some c->X.s₀.heap.objs.size≤c
 hd:X.calm=true->X.A.handled=none
 frames:X.A.frames=some X.stack
 stk:X.stack=X.outer\/(X.stack=X.env::X.outer/\X.env.frame=some X.env.locals)
 exf:∀b ∈ X.ex,b≠X.env.locals/\∀x c,X.env.cells.lookup x=some c->c≠b
 bs:∀b o,X.base.get? b=some o->X.s₀.heap.get? b=some o/\X.H₀ b=none
 bsz:X.base.objs.size≤X.s₀.heap.objs.size
 noex:∀b o,X.base.get? b=some o->b ∉ X.ex
 exfs:∀b ∈ X.ex,b ∉ X.fs
 funs:X.s₀.heap.FunFrames X.base X.outer
 frf:∀b ∈ X.fs,X.H₀ b=none
structure Inv(X:Cx)(pins:PN)(σ:List (Option V))(H:Hp)(s:Shared):Prop where
 ok:X.Ok
 os:s.os=X.s₀.os
 bare:AllBare s.gens
 base:Un X.fs X.ex X.H₀ H X.s₀.heap s.heap
 loc:∃m,s.heap.Ns X.env.locals m/\∀(i:Nat)(x:Str)(v:V),X.N[i]? = some x->σ[i]? = some (some v)->Fk X.env.scope x->∃u,RelV v u/\Look X.env s.heap m x u
 cell:∀x c,X.env.cells.lookup x=some c->∃v,s.heap.IsCell c v
 free:H X.env.locals=none
 freeC:∀x c,X.env.cells.lookup x=some c->H c=none
 pin:∀p ∈ X.pn++pins,s.heap.get? p.1=some p.2/\H p.1=none/\p.1≠X.env.locals/\p.1 ∉ X.fs/\∀v,p.2.data≠.cell v
 hok:jJ X.prog X.w H s.heap
 len:σ.length=X.N.length
section
variable{X:Cx}{B:PN}{G:List (Option V)}{H H':Hp}{s:Shared}{h':Heap}
theorem Cx.Ok.nofr(ok:X.Ok)(e:X.base.get? b=some o):b ∉ X.fs:=λh=>by have:=(ok.funs.mem h).1;rw[e]at this;cases this
theorem Inv.bs(I:Inv X B G H s):∀b o,X.base.get? b=some o->s.heap.get? b=some o/\H b=none:=λb o e=>
 ⟨I.base.keep b o (I.ok.bs b o e).1 (I.ok.bs b o e).2 (I.ok.nofr e) (I.ok.noex b o e),I.base.free b o (I.ok.bs b o e).1 (I.ok.bs b o e).2 (I.ok.noex b o e)⟩
theorem Inv.bk(I:Inv X B G H s):∀b o,X.base.get? b=some o->s.heap.get? b=some o:=λb o e=>(I.bs b o e).1
theorem Inv.mod(I:Inv X B G H s):Mod X.K X.mg X.base:=I.ok.mod
theorem Inv.kIn(I:Inv X B G H s):X.K.In s.heap:=I.ok.mod.kin.keeps I.bk
theorem Inv.fr(I:Inv X B G H s):∃m,Fr X.base X.env.locals s.heap m:=
 let ⟨m,h,_⟩:=I.loc
 ⟨m,h,I.bk,aM I.ok.bsz I.ok.above⟩
theorem Inv.lt(I:Inv X B G H s):X.env.locals < s.heap.objs.size:=let ⟨_,h,_⟩:=I.loc;h.lt
theorem Inv.sz(I:Inv X B G H s):X.s₀.heap.objs.size≤s.heap.objs.size:=aM I.ok.above (iq I.lt)
theorem Inv.nofs(I:Inv X B G H s)(h:s.heap.objs.size≤a):a ∉ X.fs:=λb=>by obtain⟨_,o,x,_⟩:=I.ok.funs.mem b;exact absurd (cj (Heap.lt_size x) (aM I.sz h)) (i7 _)
theorem Inv.cne(I:Inv X B G H s):∀x c,X.env.cells.lookup x=some c->c≠X.env.locals:=λx c e z=>by obtain⟨v,o,n,hd⟩:=I.cell x c e;obtain⟨m,⟨o',es,p,a,h,_⟩,_⟩:=I.loc;rw[z,a]at n;cases n;rw[h]at hd;cases hd
theorem Inv.funs(I:Inv X B G H s):s.heap.FunFrames X.base X.outer:=by
 have all:∀(l:List Env),(∀b ∈ Ae l,b ∈ X.fs)->X.s₀.heap.FunFrames X.base l->s.heap.FunFrames X.base l:=by
  intro l;induction l with
  |nil=>intro _ _;trivial
  |cons n r i=>
   intro a c;obtain⟨k,⟨L,o,f,m,t,hd⟩,p⟩:=c;have h:L ∈ X.fs:=a L (by unfold Ae;rw[j8,f];exact List.mem_cons_self);obtain⟨q,e⟩:=I.base.slot L o t (I.ok.frf L h) h λz=>I.ok.exfs L z h
   exact⟨k,⟨L,_,f,m,e,hd⟩,i (λb x=>a b (by unfold Ae;rw[j8,f];exact aS _ x)) p⟩
 exact all X.outer (λ_ x=>x) I.ok.funs
theorem Inv.stack(I:Inv X B G H s):s.heap.FunFrames X.base X.stack:=by
 rcases I.ok.stk with e|⟨e,h⟩
 .rw [e];exact I.funs
 .rw [e];obtain⟨m,n,_⟩:=I.loc;refine .cons (by rw[I.ok.kind];decide) h n ?_ I.funs;exact Heap.get?_none_of_le (aM I.ok.bsz I.ok.above)
theorem Inv.stkSub(I:Inv X B G H s):∀b ∈ Ae X.stack,b ∈ X.env.locals::X.fs:=λb h=>by
 rcases I.ok.stk with e|⟨e,f⟩
 .rw [e]at h;exact aS _ h
 .rw [e]at h;unfold Ae at h;rw[j8,f]at h;exact h
theorem Inv.stkFree(I:Inv X B G H s):∀b ∈ Ae X.stack,H b=none:=λb h=>by
 rcases bq.mp (I.stkSub b h) with e|h
 .rw [e];exact I.free
 .obtain⟨_,o,x,_⟩:=I.ok.funs.mem h;exact I.base.free b o x (I.ok.frf b h) λz=>I.ok.exfs b z h
theorem Inv.step{g':Array GenState}{t':Nat}{d':Drawn}{ch:List Addr}(I:Inv X B G H s)
  (a:∀b ∈ ch,(b ∈ X.ex\/X.s₀.heap.objs.size≤b)/\b≠X.env.locals/\(∀x c,X.env.cells.lookup x=some c->c≠b)/\∀p ∈ X.pn++B,p.1≠b)
  (t:∀b o,b≠X.env.locals->b ∉ X.fs->b ∉ ch->s.heap.get? b=some o->H b=none->h'.get? b=some o)
  (slot:∀b o,b≠X.env.locals->b ∈ X.fs->b ∉ ch->s.heap.get? b=some o->H b=none->∃J,h'.get? b=some { o with slots:=J }) (f:∀b o,b ∉ ch->s.heap.get? b=some o->H b=none->H' b=none)
  (y:∀b o,b ∉ ch->s.heap.get? b=some o->∃o',h'.get? b=some o')
  (D:∀b xs,H b=some (.tup xs)->H' b=some (.tup xs)) (P:∀b o u,H b=some (.frz o u)->H' b=some (.frz o u)) (A:∀b ps,H b=some (.tbl ps)->∃more,H' b=some (.tbl (ps++more)))
  (ns:∀m,s.heap.Ns X.env.locals m->h'.Ns X.env.locals m) (E:jJ X.prog X.w H' h') (U:AllBare g') :
  Inv X B G H' { s with heap:=h',gens:=g',drawn:=d',toks:=t' }:=by
 have L:∀b o,X.s₀.heap.get? b=some o->b≠X.env.locals:=λb o e=>b0 (cj (Heap.lt_size e) I.ok.above);have C:∀b o,X.s₀.heap.get? b=some o->b ∉ X.ex->b ∉ ch:=λb o e h j=>by
  rcases(a b j).1 with z|z
  .exact h z
  .exact absurd (cj (Heap.lt_size e) z) (i7 _)
 have K:∀x c,X.env.cells.lookup x=some c->∀v,s.heap.IsCell c v->h'.IsCell c v:=λx c e v Y=>by
  obtain⟨o,S,hd⟩:=Y;have w:c ∉ ch:=λz=>(a c z).2.2.1 x c e rfl;by_cases N:c ∈ X.fs
  .obtain⟨J,q⟩:=slot c o (I.cne x c e) N w S (I.freeC x c e);exact⟨_,q,hd⟩
  .exact⟨o,t c o (I.cne x c e) N w S (I.freeC x c e),hd⟩
 refine⟨I.ok,I.os,U,⟨λb o e n j h=>?_,λb o e n j h=>?_,λb o e n h=>?_,λb o e h=>?_,λb xs e=>D b xs (I.base.tups b xs e),λb o xs e=>P b o xs (I.base.frzs b o xs e),λb ps e=>?_⟩,?_,λx c e=>?_,?_,λx c e=>?_,λp O=>?_,E,I.len⟩
 .exact t b o (L b o e) j (C b o e h) (I.base.keep b o e n j h) (I.base.free b o e n h)
 .obtain⟨J,g⟩:=I.base.slot b o e n j h;obtain⟨M,F⟩:=slot b _ (L b o e) j (C b o e h) g (I.base.free b o e n h);exact⟨M,F⟩
 .obtain⟨o',g⟩:=I.base.there b o e h;exact f b o' (C b o e h) g (I.base.free b o e n h)
 .obtain⟨o',g⟩:=I.base.there b o e h;exact y b o' (C b o e h) g
 .obtain⟨Z,g⟩:=I.base.tbls b ps e;obtain⟨m2,F⟩:=A b _ g;exact⟨Z++m2,by rw[F,Array.append_assoc]⟩
 .obtain⟨m,W,V⟩:=I.loc;refine⟨m,ns m W,λi x v g F T=>?_⟩;obtain⟨u,r,l⟩:=V i x v g F T;refine⟨u,r,?_⟩;rcases l with l|⟨k,c,e,z⟩
  .exact .inl l
  .exact .inr ⟨k,c,e,K x c e _ z⟩
 .obtain⟨v,z⟩:=I.cell x c e;exact⟨v,K x c e v z⟩
 .obtain⟨m,⟨o,_,_,S,_⟩,_⟩:=I.loc;exact f _ o (λz=>(a _ z).2.1 rfl) S I.free
 .obtain⟨v,o,S,hd⟩:=I.cell x c e;exact f c o (λz=>(a c z).2.2.1 x c e rfl) S (I.freeC x c e)
 .obtain⟨e,n,Q,R,d⟩:=I.pin p O;have w:p.1 ∉ ch:=λz=>(a p.1 z).2.2.2 p O rfl;exact⟨t p.1 p.2 Q R w e n,f p.1 p.2 w e n,Q,R,d⟩
theorem Inv.un{t':Nat}(I:Inv X B G H s)(u:Un X.fs [] H H' s.heap h')(k:jJ X.prog X.w H' h'):Inv X B G H' { s with heap:=h',toks:=t' }:=by
 obtain⟨m,⟨o,es,q,f,r⟩,_⟩:=id I.loc;obtain⟨l,L⟩:=u.any f I.free (by simp);exact I.step (g':=s.gens) (d':=s.drawn) (ch:=[]) (λ_ z=>nomatch z) (λb o _ a _ e n=>u.keep b o e n a (by simp)) (λb o _ a _ e n=>u.slot b o e n a (by simp)) (λb o _ e n=>u.free b o e n (by simp)) (λb o _ e=>u.there b o e (by simp)) u.tups u.frzs u.tbls (λv c=>by obtain⟨o',x,p,h,t⟩:=c;rw[f]at h;cases h;exact⟨_,x,p,L,t⟩) k I.bare
theorem Inv.call{g':Array GenState}{t':Nat}{d':Drawn}{ch:List Addr}(I:Inv X B G H s)(u:Un (Ae X.stack) ch H H' s.heap h')(q:jJ X.prog X.w H' h')(g:AllBare g')
  (a:∀b ∈ ch,(b ∈ X.ex\/X.s₀.heap.objs.size≤b)/\b≠X.env.locals/\(∀x c,X.env.cells.lookup x=some c->c≠b)/\∀p ∈ X.pn++B,p.1≠b) :
  Inv X B G H' { s with heap:=h',gens:=g',drawn:=d',toks:=t' }:=by
 obtain⟨m,⟨o,es,j,v,r⟩,_⟩:=id I.loc;obtain⟨y,L⟩:=u.any v I.free λz=>(a _ z).2.1 rfl;exact I.step (ch:=ch) a (λb o L d h e n=>u.keep b o e n (λz=>(bq.mp (I.stkSub b z)).elim L d) h) (λb o _ _ h e n=>u.any e n h) (λb o h e n=>u.free b o e n h) (λb o h e=>u.there b o e h) u.tups u.frzs u.tbls (λl w=>by obtain⟨o',t,f,k,i⟩:=w;rw[v]at k;cases k;exact⟨_,t,f,L,i⟩) q g
theorem Inv.turned{t':Nat}{i:Addr}(I:Inv X B G H s)(k:∀b o,b≠i->s.heap.get? b=some o->h'.get? b=some o)(j:H i=none)(L:i≠X.env.locals)
  (z:i ∈ X.ex\/X.s₀.heap.objs.size≤i) (h2:∀x c,X.env.cells.lookup x=some c->c≠i) (d:∀p ∈ X.pn++B,p.1≠i):Inv X B G H { s with heap:=h',toks:=t' }:=by
 have t:∀b u,H b=some u->b≠i:=λb u e h=>by rw[h,j]at e;cases e
 refine I.step (g':=s.gens) (d':=s.drawn) (ch:=[i]) (λb w=>?_) (λb o _ _ a e _=>k b o (λh=>a (by simp[h])) e) (λb o _ _ a e _=>⟨o.slots,k b o (λh=>a (by simp[h])) e⟩) (λ_ _ _ _ n=>n)
  (λb o a e=>⟨o,k b o (λh=>a (by simp[h])) e⟩) (λ_ _ e=>e) (λ_ _ _ e=>e) (λb ps e=>⟨#[],by rw[e];simp⟩) (λm g=>?_) (λb u e=>?_) I.bare
 .have e:b=i:=by simpa using w
  subst e;exact⟨z,L,h2,d⟩
 .obtain⟨o,es,f,l,r⟩:=g;exact⟨o,es,f,k _ o (Ne.symm L) l,r⟩
 .refine (I.hok b u e).stay (λc v a q=>k c v ?_ q) (λ_ q=>q) λ_ _ q=>q;rcases a with h|h
  .rw [h];exact t b u e
  .exact t c _ h
theorem Inv.tok(I:Inv X B G H s)(t:Nat):Inv X B G H { s with toks:=t }:=I.un (h':=s.heap) (t':=t) Un.refl I.hok
theorem Inv.kept{t':Nat}(I:Inv X B G H s)(k:∀b u,s.heap.get? b=some u->h'.get? b=some u):Inv X B G H { s with heap:=h',toks:=t' }:=I.un (Un.kept k) (I.hok.kept k)
theorem Inv.laid{a:Addr}{o:HO}{t':Nat}(I:Inv X B G H s)(k:∀b u,s.heap.get? b=some u->h'.get? b=some u)(h:s.heap.objs.size≤a)(n:cZ X.prog X.w (cg H a o) h' a o) :
  Inv X B G (cg H a o) { s with heap:=h',toks:=t' }:=I.un (Un.laid k h (I.hok.fresh h)) (I.hok.laid k h n)
theorem Inv.write{x e:Addr}{o:HO}{t:Nat}(I:Inv X B G H s)(m:Iz (H x))(a:e=x\/H e=some (.own x))(k:∀b u,b≠e->s.heap.get? b=some u->h'.get? b=some u)(h:∃u,h'.get? e=some u)
  (n:cZ X.prog X.w (cg H x o) h' x o):Inv X B G (cg H x o) { s with heap:=h',toks:=t }:=I.un (Un.write m a k h) (I.hok.write m a k h n)
theorem Inv.pins_of(I:Inv X B G H s)(h:∀p ∈ N,s.heap.get? p.1=some p.2/\H p.1=none/\p.1≠X.env.locals/\p.1 ∉ X.fs/\∀v,p.2.data≠.cell v):Inv X N G H s:=
 ⟨I.ok,I.os,I.bare,I.base,I.loc,I.cell,I.free,I.freeC,λp x=>(du.mp x).elim (λz=>I.pin p (fA _ z)) (h p),I.hok,I.len⟩
theorem tD{N:LS}(s:N.Nodup){i j:Nat}{x:Str}(a:N[i]? = some x)(b:N[j]? = some x):i=j:=by obtain⟨z,e⟩:=List.getElem?_eq_some_iff.mp a;obtain⟨h2,h⟩:=List.getElem?_eq_some_iff.mp b;exact(List.getElem_inj s).mp (e.trans h.symm)
theorem pD{M:Model}{A:Around}{E:VP}{i:Nat}{x:Str}{v:V}{u:Value}{Q:Unit->Shared->Prop}(I:Inv X B G H s)(hN:X.N.Nodup)(q:X.N[i]? = some x)(S:Loc X.env.scope x)(r:RelV v u)
  (h:∀J,Inv X B (G.set i (some v)) H J->(∃a,Heap.SameBut a s.heap J.heap/\(a=X.env.locals\/X.env.cells.lookup x=some a))->Q () J) (hf:X.fn x=true\/X.env.scope.names.lookup x=some .local:=by first|exact .inl rfl|exact .inr rfl|assumption):wpAny M A (storeName X.env x u) Q E s:=by
 obtain⟨m,hn,hl⟩:=id I.loc;have U:(X.env.scope.kind == .class ||(X.env.scope.kind == .module && X.env.locals != X.env.globals))=false:=by rw[I.ok.kind];rfl
 have P:i < G.length:=by rw[I.len];exact(List.getElem?_eq_some_iff.mp q).1
 have D:=I.cne;have g:∀{a:Addr}{h':Heap},(∃o,s.heap.get? a=some o/\H a=none)->Heap.SameBut a s.heap h'->jJ X.prog X.w H h':=λ{a h'} ha t b ob e=>by
  obtain⟨_,_,F⟩:=ha;refine(I.hok b ob e).stay (λc w' l f=>(t.2 c ?_).trans f) (λ_ f=>f) λ_ _ f=>f;rintro rfl;rcases l with rfl|l
  .rw [F]at e;cases e
  .rw [F]at l;cases l
 rcases S with C|C
 .refine wpAny_storeName_local C hn (λh' hn' t=>?_) U;obtain⟨oL,_,_,hoL,_⟩:=id hn;refine h _ ⟨I.ok,I.os,I.bare,⟨λb o e n L S=>?_,λb o e n L S=>?_,I.base.free,λb o e S=>?_,I.base.tups,I.base.frzs,I.base.tbls⟩,⟨_,hn',λj y v' w K e3=>?_⟩,λy c e=>?_,I.free,I.freeC,λp hp=>?_,g ⟨oL,hoL,I.free⟩ t,by simpa using I.len⟩ ⟨_,t,.inl rfl⟩
  .exact (t.2 b (b0 (cj (Heap.lt_size e) I.ok.above))).trans (I.base.keep b o e n L S)
  .obtain⟨sl,w⟩:=I.base.slot b o e n L S;exact⟨sl,(t.2 b (b0 (cj (Heap.lt_size e) I.ok.above))).trans w⟩
  .obtain⟨o',w⟩:=I.base.there b o e S;exact⟨o',(t.2 b (b0 (cj (Heap.lt_size e) I.ok.above))).trans w⟩
  .by_cases O:j=i
   .subst O;rw[q]at w;cases w;rw[dD P]at K;cases K;exact⟨u,r,.inl ⟨C,by simp⟩⟩
   .rw [a6 (Ne.symm O)]at K;obtain⟨u',r',f⟩:=hl j y v' w K e3;refine⟨u',r',?_⟩;rcases f with ⟨k,e⟩|⟨k,c,e,z⟩
    .refine .inl ⟨k,?_⟩;have:y≠x:=λe=>O (tD hN w (e ▸ q));simp[this,e]
    .exact .inr ⟨k,c,e,z.sameBut t (D y c e)⟩
  .obtain⟨w',z⟩:=I.cell y c e;exact⟨w',z.sameBut t (D y c e)⟩
  .obtain⟨e,n,ne,nf,d⟩:=I.pin p hp;exact⟨(t.2 p.1 ne).trans e,n,ne,nf,d⟩
 .have N:X.fn x=true:=by
   rcases hf with z|z
   .exact z
   .rw [z]at C;cases C
  obtain⟨c,l⟩:=I.ok.has x (.inl C);obtain⟨w',z⟩:=I.cell x c l;refine wpAny_storeName_cell I.ok.kind C l z (λh' R t=>?_);obtain⟨oc,W,Y⟩:=id z;refine h { s with heap:=h' } ⟨I.ok,I.os,I.bare,⟨λb o e n L S=>?_,λb o e n L S=>?_,I.base.free,λb o e S=>?_,I.base.tups,I.base.frzs,I.base.tbls⟩,⟨m,hn.sameBut t (Ne.symm (D x c l)),λj y v' w K e3=>?_⟩,λy Z e=>?_,I.free,I.freeC,λp hp=>?_,g ⟨oc,W,I.freeC x c l⟩ t,by simpa using I.len⟩ ⟨c,t,.inr l⟩
  .exact (t.2 b (b0 (cj (Heap.lt_size e) (I.ok.cab x c N l)))).trans (I.base.keep b o e n L S)
  .obtain⟨sl,w⟩:=I.base.slot b o e n L S;exact⟨sl,(t.2 b (b0 (cj (Heap.lt_size e) (I.ok.cab x c N l)))).trans w⟩
  .obtain⟨o',w⟩:=I.base.there b o e S;exact⟨o',(t.2 b (b0 (cj (Heap.lt_size e) (I.ok.cab x c N l)))).trans w⟩
  .by_cases O:j=i
   .subst O;rw[q]at w;cases w;rw[dD P]at K;cases K;exact⟨u,r,.inr ⟨.inl C,c,l,R⟩⟩
   .rw [a6 (Ne.symm O)]at K;obtain⟨u',r',f⟩:=hl j y v' w K e3;refine⟨u',r',?_⟩;rcases f with f|⟨k,Z,e,z'⟩
    .exact .inl f
    .refine .inr ⟨k,Z,e,z'.sameBut t ?_⟩;rintro rfl;exact O (tD hN w (I.ok.inj _ _ _ e l ▸ q))
  .by_cases T:Z=c
   .subst T;exact⟨_,R⟩
   .obtain⟨w2,z2⟩:=I.cell y Z e;exact⟨w2,z2.sameBut t T⟩
  .obtain⟨e,n,ne,nf,d⟩:=I.pin p hp;refine⟨(t.2 p.1 ?_).trans e,n,ne,nf,d⟩;intro f;rw[f,W]at e;have q':oc=p.2:=Option.some.inj e;exact d w' (by rw[<- q'];exact Y)
theorem ti(I:Inv X B G H s)(N:X.N.Nodup)(q:X.N[i]? = some x)(e:Loc X.env.scope x)(r:RelV v u)
  (h:∀J,Inv X B (G.set i (some v)) H J->Q () J) (f:X.fn x=true\/X.env.scope.names.lookup x=some .local:=by first|exact .inl rfl|exact .inr rfl|assumption):wpAny M A (storeName X.env x u) Q E s:=
 pD I N q e r (λJ a _=>h J a) f
theorem Inv.call'(I:Inv X B G H s)(n:J.os=s.os)(u:Un (Ae X.stack) N H H' s.heap J.heap)(o:jJ X.prog X.w H' J.heap)(a:AllBare J.gens)
  (h:∀b ∈ N,(b ∈ X.ex\/X.s₀.heap.objs.size≤b)/\b≠X.env.locals/\(∀x c,X.env.cells.lookup x=some c->c≠b)/\∀p ∈ X.pn++B,p.1≠b):Inv X B G H' J:=by
 obtain⟨h',g,d,t,o'⟩:=J;have e:o'=s.os:=n;subst e;exact I.call (g':=g) (t':=t) (d':=d) u o a h
end
noncomputable abbrev XK:=Value->Option Addr->Hp->Prop
noncomputable abbrev St:=List (Option V)
noncomputable abbrev VK:=V->Hp->Prop
noncomputable abbrev TE:=St->Hp->VK->Prop
noncomputable abbrev TT:=St->Hp->(Bool->Hp->Prop)->Prop
noncomputable abbrev TA:=St->Hp->(List V->Hp->Prop)->Prop
structure Ends where
 nx:St->Hp->Prop
 rt:VK
 bk:St->Hp->Prop:=λ_ _=>False
 ct:St->Hp->Prop:=λ_ _=>False
noncomputable abbrev TS:=Ends->St->Hp->Prop
def EP(X:Cx)(B:PN)(G:St)(Q:VK)(u:Value)(J:Shared):Prop:=∃v H',Inv X B G H' J/\RelV v u/\Q v H'
def TP(X:Cx)(B:PN)(G:St)(Q:Bool->Hp->Prop)(b:Bool)(J:Shared):Prop:=∃H',Inv X B G H' J/\Q b H'
def AP(X:Cx)(B:PN)(G:St)(Q:List V->Hp->Prop)(Y:LV)(J:Shared):Prop:=∃v H',Inv X B G H' J/\aK v Y/\Q v H'
def SP(X:Cx)(B:PN)(D:Ends)(f:Flow)(J:Shared):Prop:=
 match f with
 | .next=>∃h H',Inv X B h H' J/\D.nx h H'
 | .brk=>∃h H',Inv X B h H' J/\D.bk h H'
 | .cont=>∃h H',Inv X B h H' J/\D.ct h H'
 | .ret u=>∃v h H',Inv X B h H' J/\RelV v u/\D.rt v H'
def PE(X:Cx)(e:Expr)(t:TE):Prop:=
 ∀(B:PN)(s:Shared)(G:St)(H:Hp)(Q:VK),Inv X B G H s->t G H Q->wpAny (model X.prog X.w) X.A (eval e X.env) (EP X B G Q) X.xe s
def PT(X:Cx)(e:Expr)(t:TT):Prop:=
 ∀(B:PN)(s:Shared)(G:St)(H:Hp)(Q:Bool->Hp->Prop),Inv X B G H s->t G H Q->wpAny (model X.prog X.w) X.A (isTrue e X.env (eval e X.env)) (TP X B G Q) X.xe s
def PW(X:Cx)(e:Expr)(t:TT):Prop:=
 ∀(w:Sem Value)(B:PN)(s:Shared)(G:St)(H:Hp)(Q:Bool->Hp->Prop),Inv X B G H s->t G H Q->wpAny (model X.prog X.w) X.A (isTrue e X.env w) (TP X B G Q) X.xe s
variable{X:Cx}{e:Expr}
theorem PW.pt(h:PW X e t):PT X e t:=h _
def PA(X:Cx)(es:Ab)(t:TA):Prop:=
 ∀(O:Pos)(B:PN)(s:Shared)(G:St)(H:Hp)(Q:List V->Hp->Prop),Inv X B G H s->t G H Q->wpAny (model X.prog X.w) X.A (spliced (backTo O (starEach es X.env))) (AP X B G Q) X.xe s
def PS(X:Cx)(st:Stmt)(t:TS):Prop:=
 ∀(B:PN)(s:Shared)(G:St)(H:Hp)(D:Ends),Inv X B G H s->t D G H->wpAny (model X.prog X.w) X.A (exec st X.env) (SP X B D) X.xe s
def mJ(X:Cx)(st:List Stmt)(t:TS):Prop:=
 ∀(B:PN)(s:Shared)(G:St)(H:Hp)(D:Ends),Inv X B G H s->t D G H->wpAny (model X.prog X.w) X.A (execs st X.env) (SP X B D) X.xe s
variable{M:Model}{A:Around}{E:VP}{s:Shared}
theorem cG(h:wpAny M A t Q E s)(e:∀a s,Q a s->N a s):wpAny M A t N E s:=wpAny_mono h e λ_ _ x=>x
section
variable{X:Cx}
noncomputable def Gx(i:Nat):TE:=λG H Q=>∃v,G[i]? = some (some v)/\Q v H
noncomputable def tC(v:V):TE:=λ_ H Q=>Q v H
theorem y9(N:X.N[i]? = some x)(q:Fk X.env.scope x)(hd:(x == ("__debug__":Str))=false:=by decide)(d:(x == ("__classdict__":Str))=false:=by decide):PE X (.Name x O) (Gx i):=by
 intro B s G H Q I h;obtain⟨v,e,h⟩:=h;obtain⟨m,p,b⟩:=I.loc;obtain⟨u,r,l⟩:=b i x v N e q;have f:EP X B G Q u s:=⟨v,H,I,r,h⟩;rcases l with ⟨k,t⟩|⟨k,c,n,a⟩
 .exact wpAny_Name (wpAny_loadName_local I.ok.kind k p t f) hd
 .rcases k with k|k
  .exact wpAny_Name (wpAny_loadName_cell I.ok.kind k n a f) hd
  .exact wpAny_Name (wpAny_loadName_free I.ok.kind k n a f d) hd
theorem D8 {i N O}:PE X (.Constant (.int i) N O) (tC (.int i)):=λ_ _ _ H _ I h=>wpAny_Constant_int ⟨.int i,H,I.tok _,⟨_,rfl⟩,h⟩
theorem G5 {b N O}:PE X (.Constant (.bool b) N O) (tC (.bl b)):=λ_ _ _ H _ I h=>Constant_bool ⟨.bl b,H,I,rfl,h⟩
theorem D7 {N O}:PE X (.Constant .none N O) (tC .non):=λ_ _ _ H _ I h=>Constant_none ⟨.non,H,I,rfl,h⟩
theorem D4 {x N O}:PE X (.Constant (.str x) N O) (tC (.str x)):=λ_ _ _ H _ I h=>Calls.Constant_str ⟨.str x,H,I.tok _,⟨_,rfl⟩,h⟩
def Gl(X:Cx)(x:Str):Prop:=X.env.kindOf x=some .globalImplicit
theorem rF(I:Inv X B G H s)(g:Gl X x)(m:X.mg x=some u)(h:Q u s)
  (hd:(x == ("__debug__":Str))=false:=by decide):wpAny (model X.prog X.w) X.A (eval (.Name x O) X.env) Q E s:=
 Calls.Name_function_global I.ok.kind g (Calls.loadGlobal_global (by rw[I.ok.glob];exact I.mod.glob.keeps I.bk) m h) hd
theorem lC(I:Inv X B G H s)(g:Gl X x)(m:X.mg x=none)(v:bootBuiltins x=some u)(h:Q u s)
  (n:x≠"__name__":=by decide) (hd:(x == ("__debug__":Str))=false:=by decide):wpAny (model X.prog X.w) X.A (eval (.Name x O) X.env) Q E s:=by
 obtain⟨b,z,h2⟩:=I.mod.blt;exact Calls.Name_function_global I.ok.kind g (Calls.loadGlobal_builtin (by rw[I.ok.glob];exact I.mod.glob.keeps I.bk) m (by rw[I.ok.blt];exact z.keeps I.bk) ((h2 x n).trans v) h) hd
theorem BB(g:Gl X x)(m:X.mg x=some u)(r:RelV v u)(hd:(x == ("__debug__":Str))=false:=by decide):PE X (.Name x O) (tC v):=
 λ_ _ _ H _ I h=>rF I g m ⟨v,H,I,r,h⟩ hd
def Ma(ta tb:TE)(k:Int->Int->Hp->Prop):St->Hp->Prop:=λG H=>ta G H λx U=>tb G U λy H2=>∃i j,x=.int i/\y=.int j/\k i j H2
variable{a b:Expr}{ta tb:TE}{O:Pos}
noncomputable def xk(p:Int->Int->Bool)(ta tb:TE):TE:=λG H Q=>Ma ta tb (λi j H2=>Q (.bl (p i j)) H2) G H
abbrev MQ:TE->TE->TE:=xk λi j=>decide (i < j)
abbrev MR:TE->TE->TE:=xk λi j=>decide (i≤j)
abbrev MS:TE->TE->TE:=xk λi j=>decide (j < i)
abbrev MT:TE->TE->TE:=xk λi j=>decide (j≤i)
abbrev L9:TE->TE->TE:=xk λi j=>decide (i=j)
abbrev L7:TE->TE->TE:=xk λi j=>!decide (i=j)
variable{tA tB':TT}{ck:Ab}
noncomputable def J'(t u:TT):TT:=λG H Q=>t G H λc U=>if c=true then u G U Q else Q false U
noncomputable def L6(t u:TT):TT:=λG H Q=>t G H λc U=>if c=true then Q true U else u G U Q
noncomputable def J5(t:TT):TT:=λG H Q=>t G H λc U=>Q (!c) U
theorem Bn(x:PT X a tA):PW X (.BoolOp .And [a] O) tA:=by
 intro w B s G H Q I h;refine isTrue_and (cG (x B s G H Q I h) λc n e=>?_);cases c with
 |true=>exact isTrue_and_nil e
 |false=>exact e
theorem DR(x:PT X a tA):PW X (.BoolOp .Or [a] O) tA:=by
 intro w B s G H Q I h;refine isTrue_or (cG (x B s G H Q I h) λc n e=>?_);cases c with
 |false=>exact isTrue_or_nil e
 |true=>exact e
theorem DS(e:PT X a tA)(n:PW X (.BoolOp .And (b::ck) O) tB'):PW X (.BoolOp .And (a::b::ck) O) (J' tA tB'):=by
 intro w B s G H Q I h;refine isTrue_and (cG (e B s G H _ I h) λc k z=>?_);obtain⟨U,x,q⟩:=z;cases c with
 |true=>exact n w B k G U Q x q
 |false=>exact⟨U,x,q⟩
theorem G0(e:PT X a tA)(n:PW X (.BoolOp .Or (b::ck) O) tB'):PW X (.BoolOp .Or (a::b::ck) O) (L6 tA tB'):=by
 intro w B s G H Q I h;refine isTrue_or (cG (e B s G H _ I h) λc k z=>?_);obtain⟨U,x,q⟩:=z;cases c with
 |true=>exact⟨U,x,q⟩
 |false=>exact n w B k G U Q x q
theorem DT(x:PT X a tA):PT X (.UnaryOp .Not a O) (J5 tA):=by intro B s G H Q I h;exact isTrue_not (x B s G H (λc U=>Q (!c) U) I h)
noncomputable def GL(ta tb:TE):TE:=λG H Q=>ta G H λx U=>∃c,x=.bl c/\if c=true then tb G U Q else Q (.bl false) U
noncomputable def J4(ta tb:TE):TE:=λG H Q=>ta G H λx U=>∃c,x=.bl c/\if c=true then Q (.bl true) U else tb G U Q
noncomputable def Gz(ta:TE):TE:=λG H Q=>ta G H λx U=>∃c,x=.bl c/\Q (.bl (!c)) U
theorem D5 {N} (h:PE X a t):PE X (.BoolOp N [a] O) t:=λB s G H Q I hw=>BoolOp_one (h B s G H Q I hw)
theorem D_(n:PE X a ta)(k:PE X (.BoolOp .And (b::ck) O) tb):PE X (.BoolOp .And (a::b::ck) O) (GL ta tb):=by
 intro B s G H Q I h;refine BoolOp_and (cG (n B s G H _ I h) λv f z=>?_);obtain⟨x,U,e,r,q⟩:=z;obtain⟨c,rfl,q⟩:=q;cases r;refine i_ ?_;cases c with
 |true=>exact k B f G U Q e q
 |false=>exact⟨.bl false,U,e,rfl,q⟩
theorem G3(n:PE X a ta)(k:PE X (.BoolOp .Or (b::ck) O) tb):PE X (.BoolOp .Or (a::b::ck) O) (J4 ta tb):=by
 intro B s G H Q I h;refine BoolOp_or (cG (n B s G H _ I h) λv f z=>?_);obtain⟨x,U,e,r,q⟩:=z;obtain⟨c,rfl,q⟩:=q;cases r;refine i_ ?_;cases c with
 |false=>exact k B f G U Q e q
 |true=>exact⟨.bl true,U,e,rfl,q⟩
theorem D6(n:PE X a ta):PE X (.UnaryOp .Not a O) (Gz ta):=by intro B s G H Q I h;refine UnaryOp_ (cG (n B s G H _ I h) λv k z=>?_);obtain⟨x,U,e,r,q⟩:=z;obtain⟨c,rfl,q⟩:=q;cases r;exact not_of (i_ ⟨.bl (!c),U,e,rfl,q⟩)
noncomputable def L8(t:TT)(ta tb:TE):TE:=λG H Q=>t G H λc U=>if c=true then ta G U Q else tb G U Q
theorem zf(f:PT X c tA)(n:PE X a ta)(k:PE X b tb):PE X (.IfExp c a b O) (L8 tA ta tb):=by
 intro B s G H Q I h;refine wpAny_IfExp (cG (f B s G H _ I h) λd e z=>?_);obtain⟨U,x,q⟩:=z;cases d with
 |true=>exact n B e G U Q x q
 |false=>exact k B e G U Q x q
end
def hX(K:FG)(H:Hp)(a:Addr)(xs:List V):Prop:=
 Rd H a (.lst xs) \/
  ∃(o:Obj)(i:Array Value)(n:Nat),K.lookup a=some o/\o.cls=.type "list"/\o.dict=none/\o.data=.seq i n/\i.size≤sizeLine/\aK xs i.toList
def sO(K:FG)(H:Hp)(a:Addr)(xs:List V):Prop:=
 Rd H a (.tup xs) \/
  ∃(o:Obj)(i:Array Value)(n:Nat),K.lookup a=some o/\o.cls=.type "tuple"/\o.dict=none/\o.data=.seq i n/\i.size≤sizeLine/\aK xs i.toList
noncomputable def K2:Value->Option V
 | .none=>some .non
 | .bool b=>some (.bl b)
 | .int i _=>some (.int i)
 | .str x _=>some (.str x)
 | .bytes b _=>some (.byt b)
 | .float b _=>some (.flt b)
 | .ref a=>some (.ref a)
 | .type n=>some (.ty n)
 |_=>none
theorem RelV.abs(r:RelV x u):K2 u=some x:=by
 cases x with
 |non=>cases r;rfl
 |bl _=>cases r;rfl
 |int _=>obtain⟨t,rfl⟩:=r;rfl
 |str _=>obtain⟨t,rfl⟩:=r;rfl
 |byt _=>obtain⟨t,rfl⟩:=r;rfl
 |flt _=>obtain⟨t,rfl⟩:=r;rfl
 |ref _=>cases r;rfl
 |ty _=>cases r;rfl
theorem RelV.inj(r:RelV x u)(q:RelV y u):x=y:=Option.some.inj (r.abs.symm.trans q.abs)
theorem aK.inj:∀{xs ys:List V}{Y:LV},aK xs Y->aK ys Y->xs=ys
 |_,_,_,.nil,.nil=>rfl
 |_,_,_,.cons r t,.cons h x=>by rw[r.inj h,aK.inj t x]
section
variable{X:Cx}{B:PN}{G:St}{H:Hp}{s:Shared}{a:Addr}{xs ys:List V}
theorem hX.of{K:FG}(h:H a=some (.lst xs)):hX K H a xs:=.inl (.inl h)
theorem Inv.list(I:Inv X B G H s)(h:hX X.K H a xs):∃i:LV,aK xs i/\PlainL s.heap a i.toArray/\xs.length≤sizeLine:=by
 rcases h with h|⟨o,i,n,k,c,hd,x,f,r⟩
 .obtain⟨z,i,n,r,e⟩:=h.ok I.hok;exact⟨i,r,⟨_,n,e,rfl,rfl,rfl⟩,z⟩
 .refine⟨i.toList,r,⟨o,n,I.kIn a o k,c,hd,by simpa using x⟩,?_⟩;have e:=r.length;simp only[li]at e;lia
theorem Inv.tuple(I:Inv X B G H s)(h:sO X.K H a xs):∃i:LV,aK xs i/\IsTup s.heap a i.toArray/\xs.length≤sizeLine:=by
 rcases h with h|⟨o,i,n,k,c,_,x,f,r⟩
 .obtain⟨z,i,r,p⟩:=h.ok I.hok;exact⟨i,r,p.tup,z⟩
 .refine⟨i.toList,r,⟨o,I.kIn a o k,c,n,by simpa using x⟩,?_⟩;have e:=r.length;simp only[li]at e;lia
theorem Inv.tupleN(I:Inv X B G H s)(h:sO X.K H a xs):∃i:LV,aK xs i/\lW s.heap a i.toArray:=by
 rcases h with q|⟨o,v,m,e,x,n,k,_,r⟩
 .exact⟨_,(q.ok I.hok).2.choose_spec⟩
 .exact⟨v.toList,r,o,I.kIn a o e,⟨x,m,by simpa using k⟩,n⟩
theorem Inv.list_inj(I:Inv X B G H s)(h:hX X.K H a xs)(h':hX X.K H a ys):xs=ys:=by
 obtain⟨t,r,⟨o,n,e,_,_,d⟩,_⟩:=I.list h;obtain⟨i,b,⟨o',c,k,_,_,x⟩,_⟩:=I.list h';rw[e]at k;cases k;rw[d]at x;injection x with f _;have:t=i:=by simpa using congrArg Array.toList f
 subst this;exact r.inj b
end
noncomputable abbrev Cx.wish(X:Cx)(E:VP):Cx:={ X with xe:=E }
abbrev Cx.nox(X:Cx):Cx:=X.wish λ_ _=>False
theorem Cx.Ok.wish(ok:X.Ok)(E:VP):(X.wish E).Ok:=
 ⟨ok.mod,ok.kind,ok.glob,ok.blt,ok.above,ok.inj,ok.has,ok.cab,ok.hd,ok.frames,ok.stk,ok.exf,ok.bs,ok.bsz,ok.noex,ok.exfs,ok.funs,ok.frf⟩
theorem Cx.Ok.unwish(ok:(X.wish E).Ok):X.Ok:=
 ⟨ok.mod,ok.kind,ok.glob,ok.blt,ok.above,ok.inj,ok.has,ok.cab,ok.hd,ok.frames,ok.stk,ok.exf,ok.bs,ok.bsz,ok.noex,ok.exfs,ok.funs,ok.frf⟩
section
variable{X:Cx}{B:PN}{G:St}{H:Hp}{s:Shared}{E:VP}
theorem Inv.wish(I:Inv X B G H s)(E:VP):Inv (X.wish E) B G H s:=⟨I.ok.wish E,I.os,I.bare,I.base,I.loc,I.cell,I.free,I.freeC,I.pin,I.hok,I.len⟩
theorem Inv.unwish(I:Inv (X.wish E) B G H s):Inv X B G H s:=⟨I.ok.unwish,I.os,I.bare,I.base,I.loc,I.cell,I.free,I.freeC,I.pin,I.hok,I.len⟩
set_option tactic.hygienic true in
theorem SP.unwish(h:SP (X.wish E) B D f J):SP X B D f J:=by
 cases f with
 |next=>obtain⟨x,H',I,q⟩:=h;exact⟨x,H',I.unwish,q⟩
 |brk=>obtain⟨x,H',I,q⟩:=h;exact⟨x,H',I.unwish,q⟩
 |cont=>obtain⟨x,H',I,q⟩:=h;exact⟨x,H',I.unwish,q⟩
 |ret u=>obtain⟨v,x,H',I,r,q⟩:=h;exact⟨v,x,H',I.unwish,r,q⟩
theorem mJ.nox{st:List Stmt}{t:TS}(h:mJ X.nox st t):mJ X st t:=λB s G H D I hw=>
 wpAny_mono (h B s G H D (I.wish _) hw) (λ_ _ q=>q.unwish) λ_ _ z=>False.elim z
end
section
variable{X:Cx}{st:Stmt}{ck:List Stmt}{t u:TS}{e:Expr}{te:TE}{O:Pos}
noncomputable def GB:TS:=λD G H=>D.nx G H
noncomputable def J2(t u:TS):TS:=λD G H=>t { D with nx:=u D } G H
theorem Bp:mJ X [] GB:=λ_ _ G H _ I h=>wpAny_execs_nil ⟨G,H,I,h⟩
set_option tactic.hygienic true in
theorem y0(z:PS X st t)(h2:mJ X ck u):mJ X (st::ck) (J2 t u):=by
 intro B s G H D I h;refine wpAny_execs_cons (cG (z B s G H { D with nx:=u D } I h) λf e q=>?_);cases f with
 |next=>obtain⟨x,H',a,q⟩:=q;exact h2 B e x H' D a q
 |ret v=>exact q
 |brk=>exact q
 |cont=>exact q
set_option tactic.hygienic true in
theorem Bo(z:PS X st t):mJ X [st] t:=by
 intro B s G H D I h;refine wpAny_execs_cons (cG (z B s G H D I h) λf x q=>?_);cases f with
 |next=>exact wpAny_execs_nil q
 |ret v=>exact q
 |brk=>exact q
 |cont=>exact q
noncomputable def GH:TS:=λD G H=>D.ct G H
theorem tu:PS X (.Continue O) GH:=λ_ _ G H _ I h=>wpAny_Continue ⟨G,H,I,h⟩
theorem Inv.quiet(I:Inv X B G H s):interactive X.env=false:=by simp[interactive,I.ok.kind]
noncomputable def GG(te:TE):TS:=λD G H=>te G H λ_ U=>D.nx G U
theorem Bq(n:PE X e te)(k:swapsWith e none O.line X.env=pure false:=by rfl):PS X (.Expr e O) (GG te):=by intro B s G H D I h;exact wpAny_Expr_any (cG (n B s G H _ I h) λv f z=>by obtain⟨x,U,a,r,q⟩:=z;exact⟨G,U,a,q⟩) I.quiet k
noncomputable def J3(te:TE):TS:=λD G H=>te G H D.rt
theorem DV(n:PE X e te):PS X (.Return (some e) O) (J3 te):=by intro B s G H D I h;exact wpAny_Return_some (cG (n B s G H _ I h) λv k z=>by obtain⟨x,U,a,r,q⟩:=z;exact⟨x,G,U,a,r,q⟩)
noncomputable def J7(c:TT)(t u:TS):TS:=λD G H=>c G H λb U=>if b=true then t D G U else u D G U
theorem G1{c:Expr}{a b:List Stmt}{tc:TT}(f:PT X c tc)(n:mJ X a t)(k:mJ X b u):PS X (.If c a b O) (J7 tc t u):=by
 intro B s G H D I h;refine wpAny_If (cG (f B s G H _ I h) λd e z=>?_);obtain⟨U,x,q⟩:=z;cases d with
 |true=>exact n B e G U D x q
 |false=>exact k B e G U D x q
noncomputable def yG:TS:=λ_ _ _=>False
theorem y2:PS X st yG:=λ_ _ _ _ _ _ h=>h.elim
theorem xt:mJ X N yG:=λ_ _ _ _ _ _ h=>h.elim
end
noncomputable abbrev TG:=V->St->Hp->(St->Hp->Prop)->Prop
noncomputable abbrev Fp:=List V->St->Hp->(St->Hp->Prop)->Prop
def PG(X:Cx)(a:Expr)(t:TG):Prop:=
 ∀(B:PN)(s:Shared)(G:St)(H:Hp)(v:V)(u:Value)(Q:St->Hp->Prop),Inv X B G H s->RelV v u->t v G H Q ->
  wpAny (model X.prog X.w) X.A (assign a X.env u) (λ_ J=>∃h H',Inv X B h H' J/\Q h H') X.xe s
def Iy(X:Cx)(x:Ab)(t:Fp):Prop:=
 ∀(B:PN)(s:Shared)(G:St)(H:Hp)(v:List V)(Y:LV)(Q:St->Hp->Prop),Inv X B G H s->aK v Y->t v G H Q ->
  wpAny (model X.prog X.w) X.A (assignInOrder ((assignEach x X.env).map (·.2)) Y) (λ_ J=>∃h H',Inv X B h H' J/\Q h H') X.xe s
noncomputable abbrev Fo:=V->V->V->Hp->(Hp->Prop)->Prop
def Iw(X:Cx)(t:Fo):Prop:=
 ∀(B:PN)(s:Shared)(G:St)(H:Hp)(o i v:V)(x h u:Value)(Q:Hp->Prop),Inv X B G H s->RelV o x->RelV i h->RelV v u->t o i v H Q ->
  wpAny (model X.prog X.w) X.A (setItem x h u) (λ_ J=>∃H',Inv X B G H' J/\Q H') X.xe s
noncomputable abbrev MV:=V->V->Hp->VK->Prop
section
variable{X:Cx}{O:Pos}
noncomputable def CZ(i:Nat):TG:=λv G H Q=>Q (G.set i (some v)) H
theorem By(N:X.N.Nodup)(q:X.N[i]? = some x)(e:Loc X.env.scope x)(f:X.fn x=true\/X.env.scope.names.lookup x=some .local:=by first|exact .inl rfl|exact .inr rfl|assumption):PG X (.Name x O) (CZ i):=by intro B s G H v u Q I r h;exact wpAny_assign_Name (ti I N q e r (λJ a=>⟨_,H,a,h⟩) f)
noncomputable def KO:Fp:=λv G H Q=>v=[]/\Q G H
noncomputable def HS(t:TG)(u:Fp):Fp:=λs G H Q=>∃v r,s=v::r/\t v G H λh H'=>u r h H' Q
theorem Bx:Iy X [] KO:=by intro B s G H v Y Q I r h;obtain⟨e,h⟩:=h;subst e;cases r;exact assignInOrder_nil ⟨G,H,I,h⟩
theorem y8{e:Expr}{es:Ab}{t:TG}{u:Fp}(z:PG X e t)(h2:Iy X es u)
  (k:(assignEach (e::es) X.env).map (·.2)=assign e X.env::(assignEach es X.env).map (·.2):=by rfl):Iy X (e::es) (HS t u):=by
 intro B s G H p Y Q I r h;obtain⟨v,m,n,h⟩:=h;subst n;cases r with
 |cons r b=>rw[k];refine assignInOrder_cons (cG (z B s G H _ _ _ I r h) λ_ c f=>?_);obtain⟨x,U,a,q⟩:=f;exact h2 B c x U _ _ Q a b q
noncomputable def KL(K:FG)(n:Nat)(t:Fp):TG:=λv G H Q=>∃a xs,v=.ref a/\sO K H a xs/\xs.length=n/\t xs G H Q
theorem D2(p:X.calm=true)(h:Iy X es t)
  (q:(assignEach es X.env).length=n:=by rfl) (x:(assignEach es X.env).findIdx? (·.1)=none:=by rfl):PG X (.Tuple es k O) (KL X.K n t):=by
 intro B s G H v u Q I r hw;obtain⟨a,xs,m,d,l,hw⟩:=hw;subst m;cases r;obtain⟨i,f,w,z⟩:=I.tuple d;refine assign_Tuple_tuple (I.ok.hd p) w (by simp[q,<- l,f.length]) x λh' g=>?_
 have c:Inv X B G H { s with heap:=h' }:=I.kept (t':=s.toks) λb o e=>g b o (b0 (Heap.lt_size e)) e;exact h B _ G H xs _ Q c (by simpa using f) hw
noncomputable def KN(to x:TE)(t:Fo):TG:=λv G H Q=>to G H λo U=>x G U λi H2=>t o i v H2 λh=>Q G h
theorem D3{o i:Expr}{to a:TE}{t:Fo}(c:PE X o to)(q:PE X i a)(m:Iw X t)
  (b:∀v,assign (.Subscript o i O) X.env v=(do
   let N <- holding [v] (eval o X.env)
   let iv <- holding [v,N] (eval i X.env)
   standAt O
   holding [v,N,iv] (setItem N iv v)
   release [v,N,iv] []):=by intro _;rfl):PG X (.Subscript o i O) (KN to a t):=by
 intro B s G H v u Q I r h;rw[b];refine wpAny_bind (wpAny_holding (cG (c B s G H _ I h) λN l z=>?_));obtain⟨x,U,n,g,p⟩:=z;refine wpAny_bind (wpAny_holding (cG (q B l G U _ n p) λiv S z=>?_));obtain⟨y,H2,k,j,d⟩:=z;refine wpAny_bind (wpAny_standAt (wpAny_bind (wpAny_holding (cG (m B S G H2 x y v N iv u _ k g j r d) λ_ F z=>?_))));obtain⟨e,f,w⟩:=z;exact wpAny_release ⟨G,e,f,w⟩
noncomputable def GK(te:TE)(g:TG):TS:=λD G H=>te G H λx U=>g x G U D.nx
theorem y3{tg e:Expr}{te:TE}{g:TG}(n:PE X e te)(k:PG X tg g)(f:swapsWithSole [tg] e O.line X.env=pure false:=by rfl)(hw:swappedStores [tg] e X.env=pure none:=by rfl)
  (z:(assignEach [tg] X.env).map (·.2)=[assign tg X.env]:=by rfl):PS X (.Assign [tg] e O) (GK te g):=by
 intro B s G H D I h;refine wpAny_Assign_stores (cG (n B s G H _ I h) λv m b=>?_) f hw;obtain⟨x,U,a,r,c⟩:=b;rw[z];exact cG (k B m G U x v _ a r c) λ_ t q=>q
theorem DU(N:X.N.Nodup)(q:X.N[i]? = some x)(c:Loc X.env.scope x)(k:PE X e te)(b:swapsWith e (some (.Name x pos')) O.line X.env=pure false:=by rfl)(f:X.fn x=true\/X.env.scope.names.lookup x=some .local:=by first|exact .inl rfl|exact .inr rfl|assumption) :
  PS X (.Assign [.Name x pos'] e O) (GK te (CZ i)):=by
 intro B s G H D I h;refine wpAny_Assign_Name (cG (k B s G H _ I h) λv t z=>?_) b;obtain⟨y,U,a,r,m⟩:=z;exact ti a N q c r (λp n=>⟨_,U,n,m⟩) f
end
structure It where
 go:Nat->Hp->Prop
 yld:Nat->Hp->V->Hp->Prop
 stop:Nat->Hp->Prop
def sR(X:Cx)(B:PN)(H:Hp)(b:Addr):Prop:=
 H b=none/\b≠X.env.locals/\b ∉ X.fs/\(b ∈ X.ex\/X.s₀.heap.objs.size≤b)/\(∀x c,X.env.cells.lookup x=some c->c≠b)/\∀p ∈ X.pn++B,p.1≠b
variable{B:PN}{G:St}
theorem Inv.fpOk(I:Inv X B G H s)(h:s.heap.objs.size≤b)(n:H' b=none):sR X B H' b:=by
 refine⟨n,cE (cj I.lt h),I.nofs h,.inr (aM I.sz h),λx c e z=>?_,λp a z=>?_⟩
 .obtain⟨v,q⟩:=I.cell x c e;exact absurd (cj q.lt (by rw[z];exact h)) (i7 _)
 .exact absurd (cj (Heap.lt_size (I.pin p a).1) (by rw[z];exact h)) (i7 _)
structure Turn(P:Program)(w:World)(K:FG)(tg:Expr)(J:It)(fp:List Addr)(it:Addr)(tn:Nat->Heap->Prop):Prop where
 mem:it ∈ fp
 obj:∀i h,tn i h->∀b ∈ fp,∃o,h.get? b=some o/\∀v,o.data≠.cell v
 keep:∀i h h',tn i h->(∀b ∈ fp,∀o,h.get? b=some o->h'.get? b=some o)->tn i h'
 item:∀(X:Cx),X.prog=P->X.w=w->X.K=K->X.calm=true->∀(i:Nat)(pins:PN)(s:Shared)(σ:St)(H:Hp)(E:VP),Inv X pins σ H s->(∀b ∈ fp,sR X pins H b)->tn i s.heap->J.go i H ->
  wpAny (model P w) X.A (pyNext (.ref it)) (fun r s1=>∃u,r=some u /\
   wpAny (model P w) X.A (letOwnedTupleGo tg (.ref it) u) (λ_ s2=>∃x H',Inv X pins σ H' s2/\RelV x u/\J.yld i H x H'/\tn (i+1) s2.heap/\∀b ∈ fp,H' b=none) E s1) E s
 done:∀(X:Cx),X.prog=P->X.w=w->X.K=K->X.calm=true->∀(i:Nat)(pins:PN)(s:Shared)(σ:St)(H:Hp)(E:VP),Inv X pins σ H s->(∀b ∈ fp,sR X pins H b)->tn i s.heap->J.stop i H ->
  wpAny (model P w) X.A (pyNext (.ref it)) (λr s1=>r=none/\Inv X pins σ H s1) E s
 self:∀(A:Around)(i:Nat)(s:Shared)(Q:VP)(E:VP),tn i s.heap->Q (.ref it) s->wpAny (model P w) A (pyIter (.ref it)) Q E s
noncomputable abbrev TI:=St->Hp->(It->Hp->Prop)->Prop
def Jp(X:Cx)(B:PN)(G:St)(tg:Expr)(R:It->Hp->Prop)(i:Value)(s:Shared):Prop:=
 ∃(t:Addr)(f:List Addr)(n:Nat->Heap->Prop)(J:It)(H':Hp),i=.ref t/\Inv X B G H' s/\Turn X.prog X.w X.K tg J f t n/\n 0 s.heap/\(∀b ∈ f,sR X B H' b)/\R J H'
def PI(X:Cx)(tg iter:Expr)(w:TI):Prop:=
 ∀(B:PN)(s:Shared)(G:St)(H:Hp)(R:It->Hp->Prop),Inv X B G H s->w G H R ->
  wpAny (model X.prog X.w) X.A (eval iter X.env) (λv h=>wpAny (model X.prog X.w) X.A (pyIter v) (Jp X B G tg R) X.xe h) X.xe s
variable{tg:Expr}
theorem CW(e:s.heap.get? N=some o)(c:o.cls=.type n)(hd:o.data=.fields vs)
    (a:["enumerate","zip","dict_itemiterator","dict_reverseitemiterator","odict_iterator","itertools.zip_longest","itertools.pairwise"].contains n=false) (x:Q () s):wpAny M A (letOwnedTupleGo tg (.ref N) u) Q E s:=by
  unfold letOwnedTupleGo;cases tg<;>first
    |exact wpAny_pure x
    | (cases u <;> first
        |exact wpAny_pure x
        | (refine wpAny_bind (wpAny_load e ?_)
           rw[c,hd];show wpAny M A (if (["enumerate","zip","dict_itemiterator","dict_reverseitemiterator","odict_iterator","itertools.zip_longest","itertools.pairwise"].contains n && vs[0]? == some (rawInt _))=true then _ else _) Q E s;rw[if_neg (by intro h;rw[a,Bool.false_and]at h;cases h)];exact wpAny_pure x))
noncomputable def Js(K:FG)(a:Addr):It:=
 ⟨λi H=>∃xs x,hX K H a xs/\xs[i]? = some x,λi H x H'=>H'=H/\∀xs,hX K H a xs->xs[i]? = some x,λi H=>∃xs,hX K H a xs/\xs.length≤i⟩
noncomputable def Jr(I:Int)(n:Nat):It:=⟨λi _=>i < n,λi H x H'=>H'=H/\x=.int (I+i),λi _=>n≤i⟩
variable{w:World}{K:FG}
theorem xc(a t:Addr):Turn P w K tg (Js K a) [t] t (λi h=>h.IsListIter t a i) where
 mem:=by simp
 obj:=λi h st b n=>by
  have e:b=t:=by simpa using n
  subst e;obtain⟨o,e,c,d⟩:=st;exact⟨o,e,λv z=>by rw[d]at z;cases z⟩
 keep:=λi h h' st k=>st.at λo e=>k t (by simp) o e
 item:=by
  intro X F hw S L i B s G H E I m st A;subst F hw S;obtain⟨xs,x,q,C⟩:=A;obtain⟨D,J,p,T⟩:=I.list q;obtain⟨u,Q,U⟩:=J.get C;obtain⟨r,g,O,j,l,y⟩:=m t (by simp);refine wpAny_pyNext_list_item st p.isList (x:=u) (by simpa using Q) λh' f V=>?_
  have M:Inv X B G H { s with heap:=h' }:=I.turned (t':=s.toks) (λb o n e=>(V.2 b n).trans e) r g j l y;obtain⟨o,e,c,d⟩:=id f;exact⟨u,rfl,CW (s:={ s with heap:=h' }) e c d (by decide) ⟨x,H,M,U,⟨rfl,λys R=>by rw[I.list_inj R q];exact C⟩,f,λb n=>(m b n).1⟩⟩
 done:=by intro X F hw S L i B s G H E I m st A;subst F hw S;obtain⟨xs,q,C⟩:=A;obtain⟨D,J,p,T⟩:=I.list q;obtain⟨r,g,O,j,l,y⟩:=m t (by simp);have W:=J.length;exact wpAny_pyNext_list_end (I.ok.hd L) st p.isList (by simp;lia) λh' N=>⟨rfl,I.turned (t':=s.toks) (λb o n e=>N b o n e) r g j l y⟩
 self:=λ_ _ _ _ _ st h=>wpAny_pyIter_listiter st h
theorem uW(a:Addr)(I:Int)(n:Nat):Turn P w K tg (Jr I n) [a] a (λi h=>IsRangeIter h a (I+(i:Nat) * 1) ((n:Int)-(i:Nat)) 1) where
 mem:=by simp
 obj:=λi h st b f=>by
  have e:b=a:=by simpa using f
  subst e;exact⟨_,st,λv z=>by have J:Data.fields _=Data.cell v:=z;cases J⟩
 keep:=λi h h' st k=>k a (by simp) _ st
 item:=by
  intro X j hw g l i B s G H E x m st y;subst j hw g;obtain⟨r,p,A,q,d,u⟩:=m a (by simp);have W:=Walks.range (prog:=X.prog) (w:=X.w) (x.ok.hd l) a I 1 n;refine W.item i s _ _ y st λv h' tk C c D=>?_
  obtain⟨t,rfl⟩:=C;have S:Inv X B G H { s with heap:=h',toks:=tk }:=x.turned (λb o f e=>D b o (by simpa using f) e) r p q d u;refine⟨_,rfl,CW (s:={ s with heap:=h',toks:=tk }) (n:="range_iterator") c rfl rfl (by decide) ⟨.int (I+i),H,S,⟨t,?_⟩,⟨rfl,rfl⟩,c,λb f=>(m b f).1⟩⟩;rw[Int.mul_one]
 done:=by intro X j hw g l i B s G H E x m st y;subst j hw g;obtain⟨r,p,A,q,d,u⟩:=m a (by simp);exact wpAny_pyNext_range_end (x.ok.hd l) st (by have:n≤i:=y;lia) λh' F=>⟨rfl,x.turned (t':=s.toks) (λb o f e=>F b o f e) r p q d u⟩
 self:=λ_ _ _ _ _ st h=>wpAny_pyIter_rangeiter st h
section
variable{X:Cx}{tg:Expr}
theorem yW{I q:Int}{t u v:Tok}{tk:Nat}(h:Inv X B G H s)(z:-(2 ^ 62)≤I)(h2:I < 2 ^ 62)(f:-(2 ^ 62)≤q)(c:q < 2 ^ 62)
  (x:R (Jr I (q-I).toNat) H):wpAny (model X.prog X.w) X.A (pyIter (.ref s.heap.objs.size)) (Jp X B G tg R) E { s with heap:=s.heap.push { cls:=.type "range",data:=.fields #[.int I t,.int q u,.int 1 v] },toks:=tk }:=by
 refine wpAny_pyIter_range (IsRange.new ..) (small_one z h2 f c) ?_;have a:Inv X B G H { s with heap:=s.heap.push { cls:=.type "range",data:=.fields #[.int I t,.int q u,.int 1 v] },toks:=tk }:=h.kept fun b o e=>Heap.get?_push_of_some _ e;refine⟨(s.heap.push { cls:=.type "range",data:=.fields #[.int I t,.int q u,.int 1 v] }).objs.size,[(s.heap.push { cls:=.type "range",data:=.fields #[.int I t,.int q u,.int 1 v] }).objs.size],_,_,H,rfl,
  a.kept (t':=tk) λb o e=>Heap.get?_push_of_some _ e,uW _ I (q-I).toNat,?_,λb m=>?_,x⟩
 .have n:I+((0:Nat):Int) * 1=I:=by simp
  have k:(((q-I).toNat:Nat):Int)-((0:Nat):Int)=Builtin.Range.rangeSize I q 1:=by rw[rangeSize_one];split<;>lia
  show IsRangeIter _ _ (I+((0:Nat):Int) * 1) ((((q-I).toNat:Nat):Int)-((0:Nat):Int)) 1;rw[n,k];exact Heap.get?_push_size _ rfl
 .have e:b=(s.heap.push { cls:=.type "range",data:=.fields #[.int I t,.int q u,.int 1 v] }).objs.size:=by simpa using m
  subst e;exact a.fpOk (Nat.le_refl _) (a.hok.fresh (Nat.le_refl _))
noncomputable def HI(ta:TA):TI:=λG H R=>ta G H λv U=>∃j:Int,v=[.int j]/\-(2 ^ 62)≤j/\j < 2 ^ 62/\R (Jr 0 j.toNat) U
theorem xx{a:Expr}{ta:TA}{p O:Pos}(g:Gl X "range")(m:X.mg "range"=none)(k:PA X [a] ta)(f:starEach [a] X.env=[(false,eval a X.env)]:=by rfl):PI X tg (.Call (.Name "range" p) [a] [] O) (HI ta):=by
 intro B s G H R I h;refine Call_ (lC I g m boot_range (nr (cG (k O B s G H _ I h) λY d z=>?_) f rfl));obtain⟨w,U,n,c,x⟩:=z;obtain⟨j,e,x,b,q⟩:=x;subst e;cases c with
 |cons r v=>cases v;obtain⟨t,rfl⟩:=r;exact call_range_1 (yW n (by lia) (by lia) x b (by simpa using q))
noncomputable def J8(w:TI)(g:TG)(tb:TS):TS:=λD G H=>w G H λJ U=>∃W:Nat->Nat->St->Hp->Prop,(∃m,W 0 m G U)/\∀i m G H,W i m G H ->
 (J.stop i H/\D.nx G H)\/(J.go i H/\∃N:St->Hp->Prop,(∀h H',N h H'->∃e,e < m/\W (i+1) e h H')/\∀x H',J.yld i H x H'->g x G H' λa H2=>tb { D with nx:=N,ct:=N,bk:=D.nx } a H2)
noncomputable def lz(f:List Addr)(h:Heap):PN:=f.filterMap λb=>(h.get? b).map λo=>(b,o)
theorem iJ(x:b ∈ N)(e:h.get? b=some o):(b,o) ∈ lz N h:=ni.mpr ⟨b,x,by rw[e];rfl⟩
theorem xz(s:p ∈ lz N h):p.1 ∈ N/\h.get? p.1=some p.2:=by
 obtain⟨b,a,e⟩:=ni.mp s;cases q:h.get? b with
 |none=>rw[q]at e;cases e
 |some o=>rw[q]at e;have x:(b,o)=p:=Option.some.inj e;subst x;exact⟨a,q⟩
theorem Inv.pinned(I:Inv X B G H s)(k:∀b ∈ N,sR X B H b)(c:∀b ∈ N,∃o,s.heap.get? b=some o/\∀v,o.data≠.cell v):Inv X (B++lz N s.heap) G H s:=
 I.pins_of λp m=>(du.mp m).elim (λz=>I.pin p (e_ _ z)) λz=>by obtain⟨x,e⟩:=xz z;obtain⟨f,a,n,_⟩:=k p.1 x;obtain⟨o,h,d⟩:=c p.1 x;rw[e]at h;cases h;exact⟨e,f,a,n,d⟩
theorem Inv.unpinned(I:Inv X (B++N) G H s):Inv X B G H s:=I.pins_of λp h=>I.pin p (e_ _ (fA _ h))
set_option tactic.hygienic true in
theorem DW{iter:Expr}{y:List Stmt}{wi:TI}{g:TG}{tb:TS}{O:Pos}(A:PassesOwn (model X.prog X.w) X.A X.env X.xe)(hc:X.calm=true)(q:PI X tg iter wi)(hg:PG X tg g)(p:mJ X y tb)
  (hs:∀x,foldedSetIterable iter X.env x=pure x:=by intro _;rfl):PS X (.For tg iter y [] O) (J8 wi g tb):=by
 intro B s G H D I h;refine wpAny_For (cG (q B s G H _ I h) λv s1 z=>cG z λitv s2 h2=>?_) hs;obtain⟨it,K,tn,a,H2,e,I2,T,Y,f2,W,⟨m0,w0⟩,L⟩:=h2;subst e;have w:∀{H':Hp},(∀b ∈ K,H' b=none)->∀b ∈ K,sR X B H' b:=λhn b p=>⟨hn b p,(f2 b p).2⟩
 refine codeAny_forLoop_any (λn J=>∃i j H',Inv X B j H' J/\tn i J.heap/\(∀b ∈ K,H' b=none)/\W i n j H') ?_ m0 ⟨0,G,H2,I2,Y,λb p=>(f2 b p).1,w0⟩;rintro n s3 ⟨i,l,M,I3,oH,P,w3⟩;rcases L i n l M w3 with ⟨E,qn⟩|⟨go,N,hN,step⟩
 .refine ng A (cG (T.done X rfl rfl rfl hc i B s3 l M X.xe I3 (w P) oH E) λr s4 F=>?_);obtain⟨U,I4⟩:=F;subst U;exact wpAny_execs_nil ⟨l,M,I4,qn⟩
 .refine ng A (cG (T.item X rfl rfl rfl hc i B s3 l M X.xe I3 (w P) oH go) λr s4 F=>?_);obtain⟨u,U,h4⟩:=F;subst U;refine ng A (cG h4 λ_ s5 F=>?_);obtain⟨x,H5,I5,r5,y5,Fw,R⟩:=F;have Q:=I5.pinned (w R) (T.obj _ _ Fw);refine ng A (cG (hg _ s5 l H5 x u _ Q r5 (step x H5 y5)) λ_ s6 F=>?_);obtain⟨Z,H6,I6,q6⟩:=F;refine ng A (cG (p _ s6 Z H6 _ I6 q6) λf V S=>?_);have again:∀{k:St}{c:Hp},Inv X (B++lz K s5.heap) k c V->N k c->∃m,m < n/\∃i j H',Inv X B j H' V/\tn i V.heap/\(∀b ∈ K,H' b=none)/\W i m j H':=λ{k c} t C=>by
   obtain⟨m',hm,w7⟩:=hN k c C;refine⟨m',hm,i+1,k,c,t.unpinned,T.keep _ _ _ Fw λb p o e=>(t.pin (b,o) (e_ _ (e_ _ (iJ p e)))).1,λb p=>?_,w7⟩;obtain⟨o,e,d⟩:=T.obj _ _ Fw b p;exact(t.pin (b,o) (e_ _ (e_ _ (iJ p e)))).2.1
  cases f with
  |next=>obtain⟨k,c,t,C⟩:=S;exact again t C
  |cont=>obtain⟨k,c,t,C⟩:=S;exact again t C
  |brk=>obtain⟨k,c,t,S⟩:=S;exact⟨k,c,t.unpinned,S⟩
  |ret v=>obtain⟨x7,k,c,t,r7,S⟩:=S;exact⟨x7,k,c,t.unpinned,r7,S⟩
end
noncomputable abbrev R2:=V->V->Hp->VK->Prop
def ip(X:Cx)(f:Value->Value->Sem Value)(r:R2):Prop:=
 ∀(B:PN)(s:Shared)(G:St)(H:Hp)(x y:V)(v u:Value)(Q:VK),Inv X B G H s->RelV x v->RelV y u->r x y H Q ->
  wpAny (model X.prog X.w) X.A (f v u) (EP X B G Q) X.xe s
def K3(X:Cx)(f:Value->Sem Value)(r:V->Hp->VK->Prop):Prop:=
 ∀(B:PN)(s:Shared)(G:St)(H:Hp)(x:V)(v:Value)(Q:VK),Inv X B G H s->RelV x v->r x H Q ->
  wpAny (model X.prog X.w) X.A (f v) (EP X B G Q) X.xe s
def eF(X:Cx)(f:Value)(r:List V->Hp->VK->Prop):Prop:=
 ∀(B:PN)(s:Shared)(G:St)(H:Hp)(xs:List V)(Y:LV)(Q:VK),Inv X B G H s->aK xs Y->r xs H Q ->
  wpAny (model X.prog X.w) X.A (call f Y) (EP X B G Q) X.xe s
def K4(X:Cx)(r:V->Hp->(Bool->Hp->Prop)->Prop):Prop:=
 ∀(B:PN)(s:Shared)(G:St)(H:Hp)(x:V)(v:Value)(Q:Bool->Hp->Prop),Inv X B G H s->RelV x v->r x H Q ->
  wpAny (model X.prog X.w) X.A (truthy v) (TP X B G Q) X.xe s
noncomputable def DF(r:R2)(ta tb:TE):TE:=λG H Q=>ta G H λx U=>tb G U λy H2=>r x y H2 Q
noncomputable def L4(r:V->Hp->VK->Prop)(ta:TE):TE:=λG H Q=>ta G H λx U=>r x U Q
noncomputable def rI(C:Int->Int->Prop)(g:Int->Int->V):R2:=λx y H Q=>∃i j,x=.int i/\y=.int j/\C i j/\Q (g i j) H
noncomputable def Bk(g:Int->Int->V):R2:=λx y H Q=>∃i j,x=.int i/\y=.int j/\Q (g i j) H
def rU(g:Int->V):V->Hp->VK->Prop:=λx H Q=>∃i,x=.int i/\Q (g i) H
section
variable{X:Cx}{a b c:Expr}{ta tb tc:TE}{O:Pos}
theorem Fg(r:PE X a ta)(t:PE X b tb){B:PN}{s:Shared}{G:St}{H:Hp}{R:V->V->Hp->Prop}(I:Inv X B G H s)
  (h:ta G H λx U=>tb G U λy H2=>R x y H2) {Q:VP}{f:Value->Value->Sem Value}
  (p:∀v u k x y H2,Inv X B G H2 k->RelV x v->RelV y u->R x y H2->wpAny (model X.prog X.w) X.A (f v u) Q X.xe k) :
  wpAny (model X.prog X.w) X.A (eval a X.env) (λv e=>wpAny (model X.prog X.w) X.A (eval b X.env) (λu n=>wpAny (model X.prog X.w) X.A (f v u) Q X.xe n) X.xe e) X.xe s:=by
 refine cG (r B s G H _ I h) λv i z=>?_;obtain⟨x,U,c,w,q⟩:=z;refine cG (t B i G U _ c q) λu k z=>?_;obtain⟨y,H2,m,g,d⟩:=z;exact p v u k x y H2 m w g d
theorem G4{o:Operator}{r:R2}(f:ip X (binaryOp o) r)(n:PE X a ta)(k:PE X b tb):PE X (.BinOp a o b O) (DF r ta tb):=by intro B s G H Q I h;exact wpAny_BinOp (Fg n k I h λv u t x y H2 e c m q=>f B t G H2 x y v u Q e c m q)
theorem G2(o:K3 X (unaryOp N) r)(n:PE X a ta):PE X (.UnaryOp N a O) (L4 r ta):=by intro B s G H Q I h;exact UnaryOp_ (cG (n B s G H _ I h) λv f z=>by obtain⟨x,U,e,k,q⟩:=z;exact o B f G U x v Q e k q)
theorem IN{f:Value->Value->Sem Value}{C:Int->Int->Prop}{g:Int->Int->Int}
  (rule:∀(i j:Int)(t u:Tok)(s:Shared)(Q:VP)(E:VP),C i j->Q (.int (g i j) s.toks) { s with toks:=s.toks+1 }->wpAny (model X.prog X.w) X.A (f (.int i t) (.int j u)) Q E s) :
  ip X f (rI C λi j=>.int (g i j)):=by
 intro B s G H x y v u Q I r a h;obtain⟨i,j,rfl,rfl,c,q⟩:=h;obtain⟨t,rfl⟩:=r;obtain⟨e,rfl⟩:=a;exact rule i j t e s _ _ c ⟨.int (g i j),H,I.tok _,⟨_,rfl⟩,q⟩
theorem Hf{f:Value->Value->Sem Value}{g:Int->Int->Int}
  (rule:∀(i j:Int)(t u:Tok)(s:Shared)(Q:VP)(E:VP),Q (.int (g i j) s.toks) { s with toks:=s.toks+1 }->wpAny (model X.prog X.w) X.A (f (.int i t) (.int j u)) Q E s) :
  ip X f (Bk λi j=>.int (g i j)):=by
 intro B s G H x y v u Q I r a h;obtain⟨i,j,rfl,rfl,q⟩:=h;obtain⟨t,rfl⟩:=r;obtain⟨e,rfl⟩:=a;exact rule i j t e s _ _ ⟨.int (g i j),H,I.tok _,⟨_,rfl⟩,q⟩
theorem BJ{f:Value->Value->Sem Value}{g:Int->Int->Bool}
  (rule:∀(i j:Int)(t u:Tok)(s:Shared)(Q:VP)(E:VP),Q (.bool (g i j)) s->wpAny (model X.prog X.w) X.A (f (.int i t) (.int j u)) Q E s) :
  ip X f (Bk λi j=>.bl (g i j)):=by
 intro B s G H x y v u Q I r a h;obtain⟨i,j,rfl,rfl,q⟩:=h;obtain⟨t,rfl⟩:=r;obtain⟨e,rfl⟩:=a;exact rule i j t e s _ _ ⟨.bl (g i j),H,I,rfl,q⟩
def K_(i j:Int):Prop:=0≤j/\j≤1000000/\i.natAbs < 2 ^ 64
def MO(i j:Int):Prop:=(-(2 ^ 64) < i/\i < 2 ^ 64)\/(-(2 ^ 64) < j/\j < 2 ^ 64)
theorem Ef:ip X (binaryOp .Add) (Bk λi j=>.int (i+j)):=Hf λ_ _ _ _ _ _ _ q=>add_int q
theorem D':ip X (binaryOp .Sub) (Bk λi j=>.int (i-j)):=Hf λ_ _ _ _ _ _ _ q=>sub_int q
theorem Ec:ip X (binaryOp .Mod) (rI (λ_ j=>0 < j) λi j=>.int (i % j)):=IN λi j _ _ _ _ _ h q=>by have z:(0:Int) < j:=h;exact mod_int' (by lia) (by rw[Int.fmod_eq_emod_of_nonneg i (by lia)];exact q)
theorem Eb:ip X (binaryOp .Pow) (rI K_ λi j=>.int (i ^ j.toNat)):=IN λ_ _ _ _ _ _ _ h q=>pow_int_small h.1 h.2.1 h.2.2 q
theorem L0{f:Value->Sem Value}{g:Int->Int}
  (rule:∀(i:Int)(t:Tok)(s:Shared)(Q:VP)(E:VP),Q (.int (g i) s.toks) { s with toks:=s.toks+1 }->wpAny (model X.prog X.w) X.A (f (.int i t)) Q E s) :
  K3 X f (rU λi=>.int (g i)):=by
 intro B s G H x v Q I r h;obtain⟨i,rfl,q⟩:=h;obtain⟨t,rfl⟩:=r;exact rule i t s _ _ ⟨.int (g i),H,I.tok _,⟨_,rfl⟩,q⟩
theorem Dy:K3 X (unaryOp .USub) (rU λi=>.int (-i)):=L0 λ_ _ _ _ _ q=>neg_int q
end
noncomputable def GV:V->V->Bool
 | .non,.non=>true | .non,.int _=>true | .int _,.non=>true | .non,.bl _=>true | .bl _,.non=>true | .non,.str _=>true | .str _,.non=>true
 | .int _,.int _=>true | .bl _,.bl _=>true | .str _,.str _=>true | .byt _,.byt _=>true
 | .int _,.str _=>true | .str _,.int _=>true | .bl _,.str _=>true | .str _,.bl _=>true
 |_,_=>false
def Me:R2:=λx y H Q=>GV x y=true/\Q (.bl (decide (x=y))) H
def Md:R2:=λx y H Q=>GV x y=true/\Q (.bl (!decide (x=y))) H
theorem wR{i j:Int}:decide (V.int i=V.int j)=(i == j):=by rw[mO];simp
theorem Aq:decide (V.bl i=V.bl N)=(i == N):=by rw[mO];simp
theorem wQ:decide (V.str i=V.str N)=(i == N):=by rw[mO];simp
theorem wS:decide (V.byt i=V.byt N)=(i.toList == N.toList):=by rw[mO];cases i;cases N;simp
section
variable{X:Cx}{a b c:Expr}{ta tb tc:TE}{O:Pos}
theorem be(I:Inv X B G H s)(q:Q (.bl k) H)(e:k=N):EP X B G Q (.bool N) s:=by subst e;exact⟨.bl k,H,I,rfl,q⟩
theorem zr:ip X (compareOp .Eq) Me:=by
 intro B s G H x y v u Q I n r h;obtain⟨e,q⟩:=h;cases x with
 |non=>
  cases n;cases y with
  |non=>cases r;exact PySem.EqNone.eq_none_none (be I q (by simp))
  |bl j=>cases r;exact PySem.EqNone.eq_none_bool (be I q (by simp))
  |int j=>obtain⟨a,rfl⟩:=r;exact PySem.EqNone.eq_none_int (be I q (by simp))
  |str j=>obtain⟨a,rfl⟩:=r;exact PySem.EqNone.eq_none_str (be I q (by simp))
  |_=>exact absurd (show false=true from e) bO
 |bl i=>
  cases n;cases y with
  |non=>cases r;exact PySem.EqNone.eq_bool_none (be I q (by simp))
  |bl j=>cases r;exact eq_bool (be I q Aq)
  |str j=>obtain⟨a,rfl⟩:=r;exact PySem.EqMixed.eq_bool_str (be I q (by simp))
  |_=>exact absurd (show false=true from e) bO
 |int i=>
  obtain⟨t,rfl⟩:=n;cases y with
  |non=>cases r;exact PySem.EqNone.eq_int_none (be I q (by simp))
  |int j=>obtain⟨a,rfl⟩:=r;exact eq_int (be I q wR)
  |str j=>obtain⟨a,rfl⟩:=r;exact PySem.EqMixed.eq_int_str (be I q (by simp))
  |_=>exact absurd (show false=true from e) bO
 |str i=>
  obtain⟨t,rfl⟩:=n;cases y with
  |non=>cases r;exact PySem.EqNone.eq_str_none (be I q (by simp))
  |bl j=>cases r;exact PySem.EqMixed.eq_str_bool (be I q (by simp))
  |int j=>obtain⟨a,rfl⟩:=r;exact PySem.EqMixed.eq_str_int (be I q (by simp))
  |str j=>obtain⟨a,rfl⟩:=r;exact eq_str (be I q wQ)
  |_=>exact absurd (show false=true from e) bO
 |byt i=>
  obtain⟨t,rfl⟩:=n;cases y with
  |byt j=>obtain⟨a,rfl⟩:=r;exact PySem.W.eq_bytes (be I q wS)
  |_=>exact absurd (show false=true from e) bO
 |_=>cases y<;>exact absurd (show false=true from e) bO
theorem zp:ip X (compareOp .NotEq) Md:=by
 intro B s G H x y v u Q I n r h;obtain⟨e,q⟩:=h;cases x with
 |non=>
  cases n;cases y with
  |non=>cases r;exact PySem.EqNone.ne_none_none (be I q (by simp))
  |bl j=>cases r;exact PySem.EqNone.ne_none_bool (be I q (by simp))
  |int j=>obtain⟨a,rfl⟩:=r;exact PySem.EqNone.ne_none_int (be I q (by simp))
  |str j=>obtain⟨a,rfl⟩:=r;exact PySem.EqNone.ne_none_str (be I q (by simp))
  |_=>exact absurd (show false=true from e) bO
 |bl i=>
  cases n;cases y with
  |non=>cases r;exact PySem.EqNone.ne_bool_none (be I q (by simp))
  |bl j=>cases r;exact ne_bool (be I q (congrArg not Aq))
  |str j=>obtain⟨a,rfl⟩:=r;exact PySem.EqMixed.ne_bool_str (be I q (by simp))
  |_=>exact absurd (show false=true from e) bO
 |int i=>
  obtain⟨t,rfl⟩:=n;cases y with
  |non=>cases r;exact PySem.EqNone.ne_int_none (be I q (by simp))
  |int j=>obtain⟨a,rfl⟩:=r;exact ne_int (be I q (congrArg not wR))
  |str j=>obtain⟨a,rfl⟩:=r;exact PySem.EqMixed.ne_int_str (be I q (by simp))
  |_=>exact absurd (show false=true from e) bO
 |str i=>
  obtain⟨t,rfl⟩:=n;cases y with
  |non=>cases r;exact PySem.EqNone.ne_str_none (be I q (by simp))
  |bl j=>cases r;exact PySem.EqMixed.ne_str_bool (be I q (by simp))
  |int j=>obtain⟨a,rfl⟩:=r;exact PySem.EqMixed.ne_str_int (be I q (by simp))
  |str j=>obtain⟨a,rfl⟩:=r;exact ne_str (be I q (congrArg not wQ))
  |_=>exact absurd (show false=true from e) bO
 |byt i=>
  obtain⟨t,rfl⟩:=n;cases y with
  |byt j=>obtain⟨a,rfl⟩:=r;exact PySem.W.ne_bytes (be I q (congrArg not wS))
  |_=>exact absurd (show false=true from e) bO
 |_=>cases y<;>exact absurd (show false=true from e) bO
theorem G6:ip X (compareOp .Lt) (Bk λi j=>.bl (decide (i < j))):=BJ λ_ _ _ _ _ _ _ q=>lt_int q
theorem G7:ip X (compareOp .LtE) (Bk λi j=>.bl (decide (i≤j))):=BJ λ_ _ _ _ _ _ _ q=>le_int q
theorem G8:ip X (compareOp .Gt) (Bk λi j=>.bl (decide (j < i))):=BJ λ_ _ _ _ _ _ _ q=>gt_int q
theorem G9:ip X (compareOp .GtE) (Bk λi j=>.bl (decide (j≤i))):=BJ λ_ _ _ _ _ _ _ q=>ge_int q
theorem Ed:ip X (compareOp .Is) (λx y H Q=>y=.non/\Q (.bl (decide (x=.non))) H):=by
 intro B s G H x y v u Q I r a h;obtain⟨rfl,q⟩:=h;cases a;refine is_none_gen (be I q ?_);cases x<;>first
  |(cases r;rfl)
  |(obtain⟨t,rfl⟩:=r;rfl)
theorem BF:ip X (compareOp .IsNot) (λx y H Q=>y=.non/\Q (.bl (!decide (x=.non))) H):=by
 intro B s G H x y v u Q I r a h;obtain⟨rfl,q⟩:=h;cases a;refine isnot_none_gen (be I q ?_);cases x<;>first
  |(cases r;rfl)
  |(obtain⟨t,rfl⟩:=r;rfl)
theorem Em(b:Expr)(h:N≠.In:=by decide)(h2:N≠.NotIn:=by decide):behindInMarks N b=false:=by
 have e:(N == CmpOp.In)=false:=by cases N<;>first|rfl|exact absurd rfl h
 have x:(N == CmpOp.NotIn)=false:=by cases N<;>first|rfl|exact absurd rfl h2
 cases b<;>simp[behindInMarks,e,x]
theorem wr{o:CmpOp}{r:R2}(f:ip X (compareOp o) r)(n:PE X a ta)(k:PE X b tb)(m:behindInMarks o b=false):PE X (.Compare a [o] [b] O) (DF r ta tb):=by intro B s G H Q I h;exact wpAny_Compare1 (Fg n k I h λv u p x y H2 e c t q=>f B p G H2 x y v u Q e c t q) m
noncomputable def yF(t:TE):TT:=λG H Q=>t G H λx H'=>∃k,x=.bl k/\Q k H'
theorem wm(o:ip X (compareOp N) r)(p:PE X a ta)(q:PE X b tb)(d:behindInMarks N b=false):PT X (.Compare a [N] [b] O) (yF (DF r ta tb)):=by
 intro B s G H Q I h;refine wpAny_isTrue_Compare1 (cG (p B s G H _ I h) fun v F ⟨x,U,f,j,w⟩=>cG (q B F G U _ f w) fun u K ⟨y,H2,m,l,g⟩=>
  cG (o B K G H2 x y v u _ m j l g) λc P ⟨z,n,t,S,k,e,i⟩=>?_) d
 subst e;cases S;exact i_ ⟨n,t,i⟩
noncomputable def uZ(r e:R2)(ta tb tc:TE):TE:=λG H Q=>ta G H λx U=>tb G U λy H2=>r x y H2 λz h=>∃k,z=.bl k /\
 (if k=true then tc G h λw a=>e y w a Q else Q (.bl false) h)
theorem zl(F:ip X (compareOp op) r)(o:ip X (compareOp N) r')(i:PE X a ta)(j:PE X b tb)(l:PE X c tc)
  (S:lastMarks [op,N] [b,c]=false:=by with_unfolding_all rfl):PE X (.Compare a [op,N] [b,c] O) (uZ r r' ta tb tc):=by
 intro B s G H Q I h;refine Compare_chain (cG (i B s G H _ I h) fun v J ⟨x,U,p,C,K⟩=>chain_link (cG (j B J G U _ p K) fun u L ⟨y,H2,w,m,P⟩=>
  cG (F B L G H2 x y v u _ w C m P) λd M ⟨z,n,f,D,k,e,q⟩=>?_)) S
 subst e;cases D;refine i_ ?_;cases k with
 |false=>exact ite_ff ⟨.bl false,n,f,rfl,q⟩
 |true=>exact ite_tt (chain_last (cG (l B M G n _ f q) λT R ⟨V,t,g,E,A⟩=>o B R G t y V u T Q g m E A))
theorem yZ(C:ip X (compareOp op) r)(o:ip X (compareOp N) r')(F:PE X a ta)(K:PE X b tb)(P:PE X c tc)
  (A:lastMarks [op,N] [b,c]=false:=by with_unfolding_all rfl):PT X (.Compare a [op,N] [b,c] O) (yF (uZ r r' ta tb tc)):=by
 intro B s G H Q I h;refine isTrue_chain (cG (F B s G H _ I h) fun v Z ⟨x,U,w,T,J⟩=>test_link (cG (K B Z G U _ w J) fun u s2 ⟨y,H2,g,m,L⟩=>
  cG (C B s2 G H2 x y v u _ g T m L) λd s3 ⟨z,n,f,V,k,e,q⟩=>?_)) A
 subst e;cases V;refine i_ ?_;cases k with
 |false=>obtain⟨k',l,E⟩:=q;cases l;exact ite_ff ⟨n,f,E⟩
 |true=>refine ite_tt (test_last (cG (P B s3 G n _ f q) λw' s4 ⟨z',t,i,W,M⟩=>cG (o B s4 G t y z' u w' _ i m W M) λd' s5 D=>?_));obtain⟨z2,p,j,Y,k2,S,R⟩:=D;subst S;cases Y;exact i_ ⟨p,j,R⟩
def Fm(K:FG)(x:V)(H:Hp)(k:Bool):Prop:=
 match x with
 | .non=>k=false
 | .bl b=>k=b
 | .int i=>k=(i != 0)
 | .str y=>y.length≤sizeLine/\k=((y.length:Int) != 0)
 | .byt y=>y.size≤sizeLine/\k=((y.size:Int) != 0)
 | .ref p=>(∃xs,hX K H p xs/\k=!xs.isEmpty)\/(∃xs,sO K H p xs/\k=!xs.isEmpty)\/∃j,H p=some (.dK j)/\k=!j.isEmpty
 |_=>False
theorem vj(r:KV j N):(!N.isEmpty)=!j.isEmpty:=by cases r<;>rfl
theorem nW(r:aK xs N):(!N.toArray.isEmpty)=!xs.isEmpty:=by cases r<;>simp
theorem jb:(sizeLine:Nat) < 2 ^ 63:=by rw[jz];decide
theorem DB:K4 X (λx H Q=>∃k,Fm X.K x H k/\Q k H):=by
 intro B s G H x v Q I n h;obtain⟨k,e,q⟩:=h;have g:=jb;have o:sizeLine=16777216:=jz;cases x with
 |non=>cases n;have a:k=false:=e;subst a;exact truthy_none ⟨H,I,q⟩
 |bl b=>cases n;have a:k=b:=e;subst a;exact i_ ⟨H,I,q⟩
 |int i=>obtain⟨t,rfl⟩:=n;have a:k=(i != 0):=e;subst a;exact PySem.P.truthy_int ⟨H,I,q⟩
 |str y=>obtain⟨t,rfl⟩:=n;obtain⟨u,a⟩:y.length≤sizeLine/\k=((y.length:Int) != 0):=e;subst a;exact PySem.P.truthy_str (by lia) ⟨H,I.tok _,q⟩
 |byt y=>obtain⟨t,rfl⟩:=n;obtain⟨u,a⟩:y.size≤sizeLine/\k=((y.size:Int) != 0):=e;subst a;exact PySem.W.truthy_bytes (by lia) ⟨H,I.tok _,q⟩
 |ref p=>
  cases n;have a:(∃xs,hX X.K H p xs/\k=!xs.isEmpty)\/(∃xs,sO X.K H p xs/\k=!xs.isEmpty)\/∃j,H p=some (.dK j)/\k=!j.isEmpty:=e;rcases a with ⟨xs,f,a⟩|⟨xs,f,a⟩|⟨j,f,a⟩
  .subst a;obtain⟨d,r,w,z⟩:=I.list f;have l:=r.length;exact wpAny_truthy_list w.isList (by simp only[List.size_toArray];lia) ⟨H,I.tok _,by rw[nW r];exact q⟩
  .subst a;obtain⟨d,r,w,z⟩:=I.tuple f;have l:=r.length;exact truthy_tuple w (by simp only[List.size_toArray];lia) ⟨H,I.tok _,by rw[nW r];exact q⟩
  .subst a;obtain⟨z,S,c,r,m⟩:j.length≤sizeLine/\(p == sysModules)=false/\∃c,KV j c/\s.heap.DictOf (bJ X.prog X.w) p c:=I.hok p _ f;have l:j.length=c.length:=Paired.length r;exact wpAny_truthy_dict S m (by lia) ⟨H,I.tok _,by rw[vj r];exact q⟩
 |_=>exact(show False from e).elim
theorem yY(n:PE X a ta)(f:∀w,isTrue a X.env w=(do let v <- w;standAt a.pos;holding [v] (truthy v))) :
  PT X a (λG H Q=>ta G H λx H'=>∃k,Fm X.K x H' k/\Q k H'):=by
 intro B s G H Q I h;exact isTrue_plain (cG (n B s G H _ I h) λv b z=>by obtain⟨x,U,e,r,q⟩:=z;exact DB B b G U x v Q e r q) (f _)
theorem va:ip X (binaryOp .Add) (λx y H Q=>∃i j,x=.str i/\y=.str j/\i.length+j.length≤sizeLine/\Q (.str (i++j)) H):=by intro B s G H x y v u Q I r a h;obtain⟨i,j,rfl,rfl,z,q⟩:=h;obtain⟨t,rfl⟩:=r;obtain⟨e,rfl⟩:=a;exact add_str (λe tk=>⟨.str (i++j),H,I.tok _,⟨_,rfl⟩,q⟩) z
theorem vals1(r:aK [x] Y):∃u,Y=[u]/\RelV x u:=by
 cases r with
 |cons h a=>cases a;exact⟨_,rfl,h⟩
theorem Ax:eF X (.builtin "abs") (λxs H Q=>∃i,xs=[.int i]/\Q (.int (if i < 0 then -i else i)) H):=by intro B s G H xs Y Q I r h;obtain⟨i,rfl,q⟩:=h;obtain⟨u,rfl,t,rfl⟩:=vals1 r;exact call_abs_int λu tk=>⟨.int (if i < 0 then -i else i),H,I.tok _,⟨_,rfl⟩,q⟩
theorem pZ:eF X (.type "int") (λxs H Q=>(∃i,xs=[.int i]/\Q (.int i) H)\/∃k,xs=[.bl k]/\Q (.int (if k then 1 else 0)) H):=by
 intro B s G H xs Y Q I r h;rcases h with ⟨i,rfl,q⟩|⟨k,rfl,q⟩
 .obtain⟨u,rfl,t,rfl⟩:=vals1 r;exact call_int_int ⟨.int i,H,I,⟨_,rfl⟩,q⟩
 .obtain⟨u,rfl,x⟩:=vals1 r;cases x;exact call_int_bool ⟨.int (if k then 1 else 0),H,I.tok _,⟨_,rfl⟩,q⟩
end
structure ObjM(h:Heap)(x dx C:Addr)(mA:SV):Prop where
 obj:h.get? x=some (PySem.W.instObj C dx)
 ns:h.Ns1 dx mA
 ne:dx≠x
set_option tactic.hygienic true in
theorem xG(n:h.Ns1 dx mA):∃d,h.get? dx=some d/\∀name,PySem.W.lookIn name d=some (mA name):=by
 obtain⟨o,es,p,f,hd,s,_,m⟩:=n;refine⟨o,f,λname=>?_⟩;have e:=m name;unfold nsFind findBy at e;rw[<- Array.find?_toList]at e;unfold PySem.W.lookIn;rw[hd];dsimp only;split
 .rename_i y q;rw[q]at e;exact congrArg some e
 .rename_i q;rw[q]at e;have a:es.toList.any (·.refKey)=false:=by
   rw[List.any_eq_false];intro y b;obtain⟨z,t,k⟩:=s y (Array.mem_toList_iff.mp b);simp[DictEntry.refKey,k]
  have x:¬es.toList.any (·.refKey)=true:=by rw[a];exact bO
  rw[if_neg x];exact congrArg some e
variable{C:Addr}
theorem ObjM.look(I:ObjM h x dx C mA):∃o,PySem.W.InstAt h x (PySem.W.instObj C dx) C (some o)/\∀name,PySem.W.lookIn name o=some (mA name):=
 let ⟨o,a,l⟩:=xG I.ns
 ⟨o,⟨I.obj,rfl,rfl,a⟩,l⟩
section
variable{prog:Program}{w:World}{A:Around}{E:VP}{s:Shared}{K:FG}{x dx C f:Addr}{mA:SV}{name:Str}{v:Value}
theorem B4(X:K.In s.heap)(I:ObjM s.heap x dx C mA)(g:PySem.W.plainGet K C name=true)(n:PySem.W.hasDictIn K C=true)
  (e:PySem.W.findIn K (.ref C) name=some none) (k:mA name=some v) (a:PySem.W.handedIn v=true) (h:Q v { s with toks:=s.toks+1 }) :
  wpAny (model prog w) A (getAttr (.ref x) name N) Q E s:=by
 obtain⟨o,J,l⟩:=I.look;exact PySem.W.get_value X J (qF g).1 (PySem.W.findObj_own n e rfl (by rw[l,k])) a h
theorem Ac(X:K.In s.heap)(I:ObjM s.heap x dx C mA)(g:PySem.W.plainGet K C name=true)
  (a:PySem.W.findIn K (.ref C) name=some (some (.ref f))) (t:PySem.W.isFn K (.ref f)=true) (v:mA name=none) (h:Q (.ref f,[.ref x]) s) :
  wpAny (model prog w) A (getMethod (.ref x) name N) Q E s:=by
 obtain⟨o,J,l⟩:=I.look;exact PySem.W.method_fn X J (qF g).1 (qF g).2 a (jZ.mp t) (by show(PySem.W.lookIn name o).map (·.isSome)=some false;rw[l,v];rfl) h
theorem Be(X:K.In s.heap)(I:ObjM s.heap x dx C mA)
  (q:PySem.W.findIn K (.ref C) "__setattr__"=some (some (.builtin "object.__setattr__"))) (t:PySem.W.plainOver K C=true) (u:PySem.W.takerIn K C name=some none) (m:PySem.W.hasDictIn K C=true)
  (hw:PySem.Within mA N) (z:N.length≤sizeLine)
  (h:∀h',ObjM h' x dx C (λy=>if y=name then some v else mA y)->Heap.SameBut dx s.heap h'->Q () { s with heap:=h',toks:=s.toks+2 }) :
  wpAny (model prog w) A (setAttr (.ref x) name v) Q E s:=by
 obtain⟨H,J,l⟩:=I.look;refine PySem.W.set_plain X J q (PySem.W.osa_open (s:={ s with toks:=s.toks+1 }) (r:=none) X J t u λb=>?_);obtain⟨i,f,d⟩:=PySem.W.any_some m;have g:s.heap.get? x=some ⟨.ref C,some dx,.plain,#[]⟩:=I.obj;refine wpAny_bind (wpAny_pure (wpAny_bind (wpAny_bind (wpAny_loadPart g (wpAny_bind (PySem.W.Looks.here (s:={ s with toks:=s.toks+1 }) (PySem.W.looks_clsIn X f) ?_))))));rw[d];refine wpAny_pure (a:=some dx) (wpAny_bind (wpAny_pure (wpAny_bind ?_)));refine wpAny_nsSet1 (s:={ s with toks:=s.toks+1 }) I.ns λh' n e=>?_;obtain⟨j,k,p,o,D,c⟩:=n.count (PySem.Within.cons name v hw);refine wpAny_bind (wpAny_lookBehind o (by rw[D];exact pastItsLine_dict (aM c (by rw[bc];lia))) ?_);exact wpAny_pure (h _ ⟨(e.2 _ (Ne.symm I.ne)).trans I.obj,n,I.ne⟩ e)
theorem zG(X:K.In s.heap)(m:PySem.W.makesIn K C=true)
  (q:PySem.W.findIn K (.ref C) "__init__"=some (some (.ref f))) (x:PySem.W.typeIn K (.ref f)=some (.type "function"))
  (h:codeAny (model prog w) (A.under (.builtin "type.__call__" ⟨.ref C::N,kw⟩)) (.call (.ref f) ⟨.ref (s.heap.objs.size+1)::N,kw⟩) (PySem.W.InitBack (s.heap.objs.size+1) R)
   { s with heap:=(s.heap.push PySem.W.emptyDict).push (PySem.W.instObj C s.heap.objs.size) }) :
  codeAny (model prog w) A (.call (.ref C) ⟨N,kw⟩) R s:=by
 obtain⟨a,g,d,t,os⟩:=s;exact PySem.W.make_core (PySem.W.makes_of X m) (PySem.W.looks_findIn X q) (λe=>PySem.W.bind_fn X e x) (.inl rfl) h
end
noncomputable def hU(f:Str)(v:V):List (Str×V)->List (Str×V)
 | []=>[(f,v)]
 |(g,x)::r=>if g=f then (g,v)::r else (g,x)::hU f v r
theorem lZ(f g:Str)(v:V):∀fs:List (Str×V),(hU f v fs).lookup g=if g=f then some v else fs.lookup g
 | []=>by
  show List.lookup g [(f,v)]=_;by_cases h:g=f
  .have b:(g == f)=true:=jZ.mpr h;simp only[List.lookup,b,if_pos h]
  .have b:(g == f)=false:=j9.mpr h;simp only[List.lookup,b,if_neg h]
 |(k,x)::r=>by
  have i:=lZ f g v r;rw[show hU f v ((k,x)::r)=(if k=f then (k,v)::r else (k,x)::hU f v r) from rfl];by_cases a:k=f
  .rw [if_pos a];by_cases h:g=k
   .have b:(g == k)=true:=jZ.mpr h;simp only[List.lookup,b,if_pos (h.trans a)]
   .have b:(g == k)=false:=j9.mpr h;simp only[List.lookup,b,if_neg (λe:g=f=>h (e.trans a.symm))]
  .rw [if_neg a];by_cases h:g=k
   .have b:(g == k)=true:=jZ.mpr h;simp only[List.lookup,b,if_neg (λe:g=f=>a (h.symm.trans e))]
   .have b:(g == k)=false:=j9.mpr h;simp only[List.lookup,b];exact i
theorem lD(f:Str)(v:V):∀fs:List (Str×V),f ∈ (hU f v fs).map (·.1)/\∀g,g ∈ fs.map (·.1)->g ∈ (hU f v fs).map (·.1)
 | []=>⟨by simp[hU],λg h=>by simp at h⟩
 |(k,x)::r=>by
  obtain⟨i,s⟩:=lD f v r;rw[show hU f v ((k,x)::r)=(if k=f then (k,v)::r else (k,x)::hU f v r) from rfl];by_cases a:k=f
  .rw [if_pos a];subst a;exact⟨by simp,λg h=>by simpa using h⟩
  .rw [if_neg a];refine⟨?_,λg h=>?_⟩
   .rw [List.map_cons];exact aS _ i
   .rw [List.map_cons]at h ⊢;rcases bq.mp h with e|e
    .exact bq.mpr (.inl e)
    .exact aS _ (s g e)
theorem l0(f:Str)(v:V):∀fs:List (Str×V),(hU f v fs).length≤fs.length+1
 | []=>by simp[hU]
 |(k,x)::r=>by
  have i:=l0 f v r;rw[show hU f v ((k,x)::r)=(if k=f then (k,v)::r else (k,x)::hU f v r) from rfl];by_cases h:k=f
  .rw [if_pos h,bc,bc];lia
  .rw [if_neg h,bc,bc];lia
theorem i4.some_of{v:V}{o:OV}(r:i4 (some v) o):∃u,o=some u/\RelV v u:=by
 cases o with
 |none=>exact(show False from r).elim
 |some u=>exact⟨u,rfl,r⟩
theorem i4.none_of{o:OV}(r:i4 none o):o=none:=by
 cases o with
 |none=>rfl
 |some u=>exact(show False from r).elim
variable{v:V}
theorem xR(r:RelV v u):PySem.W.handedIn u=true:=by
 cases v with
 |non=>cases (show u=Value.none from r);rfl
 |bl b=>cases (show u=Value.bool b from r);rfl
 |int i=>obtain⟨t,e⟩:=(show ∃t,u=Value.int i t from r);cases e;rfl
 |str x=>obtain⟨t,e⟩:=(show ∃t,u=Value.str x t from r);cases e;rfl
 |byt b=>obtain⟨t,e⟩:=(show ∃t,u=Value.bytes b t from r);cases e;rfl
 |flt b=>obtain⟨t,e⟩:=(show ∃t,u=Value.float b t from r);cases e;rfl
 |ref a=>cases (show u=Value.ref a from r);rfl
 |ty n=>cases (show u=Value.type n from r);rfl
section
variable{P:Program}{w:World}{H H':Hp}{h h':Heap}{a C dx:Addr}{fs fs':List (Str×V)}
theorem rK(o:jJ P w H h)(e:H a=some (.ins C dx fs)):∃mA,ObjM h a dx C mA/\(∀f,i4 (fs.lookup f) (mA f))/\PySem.Within mA (fs.map (·.1))/\fs.length≤1000/\H dx=some (.own a):=by obtain⟨d,z,x,b,mA,n,r,q⟩:=(show cZ P w H h a (.ins C dx fs) from o a _ e);exact⟨mA,⟨b,n,x⟩,r,q,z,d⟩
end
structure Cls(K:FG)(C:Addr):Prop where
 pg:PySem.W.plainGet K C Str.empty=true
 hd:PySem.W.hasDictIn K C=true
 po:PySem.W.plainOver K C=true
 sa:PySem.W.findIn K (.ref C) "__setattr__"=some (some (.builtin "object.__setattr__"))
theorem Cls.get(c:Cls K C)(f:Str):PySem.W.plainGet K C f=true:=c.pg
def kt(K:FG)(C:Addr)(f:Str):Prop:=PySem.W.findIn K (.ref C) f=some none
theorem kt.taker(n:kt K C f):PySem.W.takerIn K C f=some none:=by unfold PySem.W.takerIn;rw[show PySem.W.findIn K (.ref C) f=some none from n];rfl
structure Con(K:FG)(C:Addr)(f:Str)(v:V)(u:Value):Prop where
 at_:PySem.W.findIn K (.ref C) f=some (some u)
 rel:RelV v u
 get:PySem.W.specialIn K u "__get__"=some none
 cp:PySem.W.copiedNames.contains f=false
structure Meth(K:FG)(C:Addr)(m:Str)(f:Addr):Prop where
 at_:PySem.W.findIn K (.ref C) m=some (some (.ref f))
 fn:PySem.W.isFn K (.ref f)=true
 kp:PySem.W.keepIn K (.ref f)=true
section
variable{X:Cx}{B:PN}{G:St}{H:Hp}{s:Shared}{a C dx:Addr}{fs:List (Str×V)}{f:Str}{v:V}{A:Around}{E:VP}
theorem vo{b:Bool}{Q:VP}(I:Inv X B G H s)(e:H a=some (.ins C dx fs))(c:Cls X.K C)(n:kt X.K C f)(l:fs.lookup f=some v)
  (h:∀u J,Inv X B G H J->RelV v u->Q u J):wpAny (model X.prog X.w) A (getAttr (.ref a) f b) Q E s:=by
 obtain⟨mA,O,r,_,_,_⟩:=rK I.hok e;obtain⟨u,k,x⟩:=i4.some_of (v:=v) (o:=mA f) (by rw[<- l];exact r f);exact B4 I.kIn O (c.get f) c.hd n k (xR x) (h u _ (I.tok _) x)
theorem n0{m:Str}{g:Addr}{p:Sem Bool}{Q:Value×LV->Shared->Prop}(I:Inv X B G H s)(e:H a=some (.ins C dx fs))(c:Cls X.K C)(k:Meth X.K C m g)(l:fs.lookup m=none)
  (h:Q (.ref g,[.ref a]) s):wpAny (model X.prog X.w) A (getMethod (.ref a) m p) Q E s:=by
 obtain⟨mA,O,r,_,_,_⟩:=rK I.hok e;have n:mA m=none:=i4.none_of (by rw[<- l];exact r m);exact Ac I.kIn O (c.get m) k.at_ k.fn n h
theorem u5(I:Inv X B G H s)(e:H a=some (.ins C dx fs))(c:Cls X.K C)(n:kt X.K C f)(l:fs.length < 1000)(i:RelV y u)
  (h:∀J,Inv X B G (cg H a (.ins C dx (hU f y fs))) J->Q () J):wpAny (model X.prog X.w) A (setAttr (.ref a) f u) Q E s:=by
 obtain⟨mA,O,r,w,_,m⟩:=rK I.hok e;have d:(fs.map (·.1)).length≤sizeLine:=by rw[a9,jz];lia
 refine Be I.kIn O c.sa c.po n.taker c.hd w d λh' k j=>h _ ?_;have hd:∃o,h'.get? dx=some o:=let ⟨o,_,_,t,_⟩:=k.ns;⟨o,t⟩
 refine I.write (x:=a) (e:=dx) (by rw[e];exact True.intro) (.inr m) (λb q p z=>(j.2 b p).trans z) hd ?_;refine⟨by rw[av O.ne];exact m,?_,O.ne,k.obj,_,k.ns,λg=>?_,λg v=>?_⟩
 .have:=l0 f y fs;lia
 .show i4 ((hU f y fs).lookup g) (if g=f then some u else mA g);rw[lZ];by_cases q:g=f
  .rw [if_pos q,if_pos q];exact i
  .rw [if_neg q,if_neg q];exact r g
 .by_cases q:g=f
  .rw [q];exact(lD f y fs).1
  .refine (lD f y fs).2 g (w g λz=>v ?_);show(if g=f then some u else mA g)=none;rw[if_neg q];exact z
theorem Inv.made(I:Inv X B G H s):Inv X B G (cg (cg H s.heap.objs.size (.own (s.heap.objs.size+1))) (s.heap.objs.size+1) (.ins C s.heap.objs.size []))
  { s with heap:=(s.heap.push PySem.W.emptyDict).push (PySem.W.instObj C s.heap.objs.size) }:=by
 have h:(s.heap.push PySem.W.emptyDict).get? s.heap.objs.size=some PySem.W.emptyDict:=Heap.get?_push_size s.heap rfl;have k:((s.heap.push PySem.W.emptyDict).push (PySem.W.instObj C s.heap.objs.size)).get? (s.heap.objs.size+1)=some (PySem.W.instObj C s.heap.objs.size):=by have:=Heap.get?_push_size (s.heap.push PySem.W.emptyDict) (o:=PySem.W.instObj C s.heap.objs.size) rfl;rwa [Heap.size_push]at this
 have f:(s.heap.push PySem.W.emptyDict).Ns s.heap.objs.size (λ_=>none):=⟨PySem.W.emptyDict,#[],_,h,rfl,(λe c=>absurd c (by simp)),λ_=>rfl⟩;have x:=I.laid (a:=s.heap.objs.size) (o:=.own (s.heap.objs.size+1)) (h':=s.heap.push PySem.W.emptyDict) (t':=s.toks) (λb u q=>Heap.get?_push_of_some _ q) (Nat.le_refl _) ⟨_,h⟩;refine x.laid (a:=s.heap.objs.size+1) (o:=.ins C s.heap.objs.size []) (t':=s.toks) (λb u q=>Heap.get?_push_of_some _ q) (Nat.le_of_eq (Heap.size_push _ _)) ?_;have n:s.heap.objs.size≠s.heap.objs.size+1:=b0 (qd _);refine⟨by rw[av n,aJ],Nat.zero_le _,n,k,λ_=>none,(Heap.Ns1.of_empty f).at λo q=>Heap.get?_push_of_some _ q,λ_=>True.intro,λy m=>absurd rfl m⟩
theorem Cq(b:attributeBase e f N (eval e N)=eval e N)
  (h:wpAny (model prog w) A (eval e N) (λo x=>wpAny (model prog w) A (getAttr o f true) Q E x) E s):wpAny (model prog w) A (eval (.Attribute e f O) N) Q E s:=
 Attribute_any_ h (by rw[arm_eval_Attribute,b])
end
def J9(K:FG)(ta:TE)(f:Str):TE:=λG H Q=>ta G H λx U=>∃a C dx fs v,x=.ref a/\U a=some (.ins C dx fs)/\Cls K C/\kt K C f/\fs.lookup f=some v/\Q v U
def Kb(K:FG)(ta tv:TE)(f:Str):TS:=λD G H=>tv G H λy U=>ta G U λx H2=>∃a C dx fs,x=.ref a/\H2 a=some (.ins C dx fs)/\Cls K C/\kt K C f/\fs.length < 1000 /\
 D.nx G (cg H2 a (.ins C dx (hU f y fs)))
section
variable{X:Cx}{o e value:Expr}{f:Str}{O pos' tpos:Pos}{ta tv:TE}
theorem D9(t:PE X e ta)(r:attributeBase e f X.env (eval e X.env)=eval e X.env):PE X (.Attribute e f O) (J9 X.K ta f):=by intro B s G H Q I h;refine Cq r (cG (t B s G H _ I h) λu w z=>?_);obtain⟨x,U,k,d,a,C,dx,fs,v,ex,m,c,n,l,q⟩:=z;subst ex;obtain rfl:u=Value.ref a:=d;exact vo k m c n l λi g b p=>⟨v,U,b,p,q⟩
theorem DX(r:PE X o ta)(v:PE X value tv)(t:swapsWith value (some (.Attribute o f pos')) O.line X.env=pure false):PS X (.Assign [.Attribute o f pos'] value O) (Kb X.K ta tv f):=by intro B s G H D I h;refine plainObj_wpAny_Assign_Attribute (cG (v B s G H _ I h) λu i ⟨y,U,e,g,q⟩=>cG (r B i G U _ e q) λp j z=>?_) t;obtain⟨x,H2,k,w,a,C,dx,fs,ex,m,c,n,l,d⟩:=z;subst ex;obtain rfl:p=Value.ref a:=w;exact u5 k m c n l g λS b=>⟨G,_,b,d⟩
end
section
variable{X:Cx}{B:PN}{G:St}{H:Hp}{s:Shared}{A:Around}{E:VP}{Q:VP}{c:Value}{b:Bool}
inductive TyOf(K:FG)(H:Hp):V->Value->Prop where
 |non:TyOf K H .non (.type "NoneType")
 |bl (x:Bool):TyOf K H (.bl x) (.type "bool")
 |int (i:Int):TyOf K H (.int i) (.type "int")
 |str (x:Str):TyOf K H (.str x) (.type "str")
 |flt (x:UInt64):TyOf K H (.flt x) (.type "float")
 |lst {a:Addr}{xs:List V} (e:H a=some (.lst xs)):TyOf K H (.ref a) (.type "list")
 |frz {a:Addr}{o:Obj}{xs:List V} (e:H a=some (.frz o (.lst xs))):TyOf K H (.ref a) (.type "list")
 |tup {a:Addr}{xs:List V} (e:H a=some (.tup xs)):TyOf K H (.ref a) (.type "tuple")
 |dK {a:Addr}{kvs:List (bB×V)} (e:H a=some (.dK kvs)):TyOf K H (.ref a) (.type "dict")
 |dT {a:Addr}{kvs:List (List bB×V)} (e:H a=some (.dT kvs)):TyOf K H (.ref a) (.type "dict")
 |ins {a C dx:Addr}{fs:List (Str×V)} (e:H a=some (.ins C dx fs)) (cl:Cls K C) (ha:PySem.W.findIn K (.ref C) "__class__"=some (some (.builtin "object.__class__")))
   (hn:PySem.W.specialIn K (.builtin "object.__class__") "__get__"=some (some (.builtin "getset_descriptor.__get__"))) (htk:PySem.W.takesIn K (.builtin "object.__class__")=some true)
   (hm:PySem.W.mroIn K C (.type "object")=some true):TyOf K H (.ref a) (.ref C)
end
structure Room(k:Nat)(A:Around):Prop where
 hd:A.handled=none
 dp:A.depth+3 * k+5 < recursionLimit
 un:A.units+16 * k+200 < cLine
variable{k:Nat}
theorem Room.deeper(r:Room (k+1) A)(e:Env):Room k (A.deeper e):=
 ⟨r.hd,by have:=r.dp;show A.depth+1+3 * k+5 < _;lia,by have:=r.un;show A.units+3+16 * k+200 < _;lia⟩
variable{kw:List (Str×Value)}
theorem vd:(A.under (.builtin "type.__call__" ⟨.ref C::Y,kw⟩)).depth=A.depth+1:=by first|rfl|simp[Around.under,Code.weight,Code.isCreation,Code.isGuard,Code.isCaller,Code.frames,Code.isFrame,guardIds]
theorem vc:(A.under (.builtin "type.__call__" ⟨.ref C::Y,kw⟩)).units=A.units+1:=by first|rfl|simp[Around.under,Code.cUnits,Code.frames,Code.isFrame]
theorem Room.make(r:Room (k+1) A)(C:Addr)(Y:LV)(kw:List (Str×Value)):Room k (A.under (.builtin "type.__call__" ⟨.ref C::Y,kw⟩)):=
 ⟨r.hd,by have:=r.dp;rw[vd];lia,by have:=r.un;rw[vc];lia⟩
theorem Room.depth(r:Room k A):A.depth < recursionLimit:=by have:=r.dp;lia
noncomputable def GA:TA:=λ_ H Q=>Q [] H
noncomputable def GI(ta:TE)(tr:TA):TA:=λG H Q=>ta G H λx U=>tr G U λxs H2=>Q (x::xs) H2
section
variable{X:Cx}{e:Expr}{es:Ab}{te:TE}{t:TA}{O:Pos}
theorem iF:PA X [] GA:=λ_ _ _ _ H Q I h=>j4 ⟨[],H,I,.nil,h⟩
theorem gj(k:PE X e te)(r:PA X es t)(f:starEach (e::es) X.env=(false,eval e X.env)::starEach es X.env:=by rfl):PA X (e::es) (GI te t):=by intro O B s G H Q I h;rw[f];show wpAny _ _ (spliced ((false,eval e X.env)::backTo O (starEach es X.env))) _ _ s;refine Calls.spliced_cons (cG (k B s G H _ I h) λu p z=>?_);obtain⟨x,U,a,c,q⟩:=z;exact cG (r O B p G U _ a q) λY v z=>by obtain⟨xs,H2,n,m,b⟩:=z;exact⟨x::xs,H2,n,.cons c m,b⟩
def J1(t:TA):TE:=λG H Q=>t G H λxs U=>xs.length≤sizeLine/\∀p,U p=none->Q (.ref p) (cg U p (.tup xs))
def J6(t:TA):TE:=λG H Q=>t G H λxs U=>xs.length≤sizeLine/\∀p,U p=none->Q (.ref p) (cg U p (.lst xs))
theorem qY {N} (h:PA X es t):PE X (.Tuple es N O) (J1 t):=by intro B s G H Q I n;refine wpAny_Tuple_spliced (cG (h O B s G H _ I n) λY x k=>?_);obtain⟨xs,U,a,r,z,q⟩:=k;refine⟨by rw[<- r.length];exact z,?_⟩;have f:U x.heap.objs.size=none:=a.hok.fresh (Nat.le_refl _);refine⟨.ref x.heap.objs.size,cg U x.heap.objs.size (.tup xs),a.laid (t':=x.toks) (λb u e=>Heap.get?_push_of_some _ e) (Nat.le_refl _) ?_,rfl,q _ f⟩;exact⟨z,Y,r,lW.new _ _⟩
theorem zd(h:PA X es t):PE X (.List es O) (J6 t):=by intro B s G H Q I n;refine wpAny_List_spliced (cG (h O B s G H _ I n) λY x k=>?_);obtain⟨xs,U,a,r,z,q⟩:=k;refine⟨by rw[<- r.length];exact z,?_⟩;have f:U x.heap.objs.size=none:=a.hok.fresh (Nat.le_refl _);refine⟨.ref x.heap.objs.size,cg U x.heap.objs.size (.lst xs),a.laid (t':=x.toks) (λb u e=>Heap.get?_push_of_some _ e) (Nat.le_refl _) ?_,rfl,q _ f⟩;exact⟨z,Y,0,r,Heap.get?_push_size _ rfl⟩
end
noncomputable abbrev Sp:=List V->Hp->VK->XK->Prop
noncomputable abbrev yg:=List Env->Hp->Shared->XK->VP
structure Env0(P:Program)(w:World)(K:FG)(mg:SV)(base:Heap)(A:Around)(outer:List Env)(s:Shared)(H:Hp):Prop where
 frames:A.frames=some outer
 mod:Mod K mg base
 bs:∀b o,base.get? b=some o->s.heap.get? b=some o/\H b=none
 bsz:base.objs.size≤s.heap.objs.size
 funs:s.heap.FunFrames base outer
 frf:∀b ∈ Ae outer,H b=none
 hok:jJ P w H s.heap
 bare:AllBare s.gens
def CE(o:List Env)(P:Program)(w:World)(H:Hp)(s:Shared)(Q:VK)(u:Value)(J:Shared):Prop:=
 ∃v H',J.os=s.os/\AllBare J.gens/\Un (Ae o) [] H H' s.heap J.heap/\jJ P w H' J.heap/\RelV v u/\Q v H'
def CR(CX:yg)(o:List Env)(P:Program)(w:World)(H:Hp)(s:Shared)(Q:VK)(E:XK)(r:Result)(J:Shared):Prop:=
 match r with
 | .ok (.ret u)=>CE o P w H s Q u J
 | .ok _=>False
 | .error e=>CX o H s E e J
structure FnOk(P:Program)(w:World)(K:FG)(mg:SV)(base:Heap)(CX:yg)(k:Nat)(f:Addr)(fd:FuncData)(ps:LS)(sp:Sp):Prop where
 len:∀vs H Q E,sp vs H Q E->vs.length=ps.length
 run:∀(A:Around)(outer:List Env)(s:Shared)(H:Hp)(args:Args)(us:LV)(vs:List V)(Q:VK)(E:XK),Room k A->Env0 P w K mg base A outer s H->BindsTo s fd args (ps.zip us)->aK vs us->sp vs H Q E ->
  codeAny (model P w) A (.call (.ref f) args) (CR CX outer P w H s Q E) s
theorem FnOk.imp(F:FnOk P w K mg base CX k f fd ps sp)
  (h:∀v H Q E,N v H Q E->sp v H Q E):FnOk P w K mg base CX k f fd ps N:=
 ⟨λv H Q E q=>F.len v H Q E (h _ _ _ _ q),λA o s H a Y v Q E r e b n x=>F.run A o s H a Y v Q E r e b n (h _ _ _ _ x)⟩
theorem Env0.make(e:Env0 P w K mg base A N s H)(C:Addr)(Y:LV)(kw:List (Str×Value)) :
  Env0 P w K mg base (A.under (.builtin "type.__call__" ⟨.ref C::Y,kw⟩)) N s H:=⟨by first|exact e.frames|(simpa[Around.under,Code.envs,Code.isFrame,pushEnvs] using e.frames),e.mod,e.bs,e.bsz,e.funs,e.frf,e.hok,e.bare⟩
section
variable{X:Cx}{B:PN}{G:St}{H:Hp}{s J:Shared}
theorem Inv.env0(I:Inv X B G H s):Env0 X.prog X.w X.K X.mg X.base X.A X.stack s H:=
 ⟨I.ok.frames,I.ok.mod,I.bs,aM I.ok.bsz I.sz,I.stack,I.stkFree,I.hok,I.bare⟩
theorem Inv.after(I:Inv X B G H s)(h:CE X.stack X.prog X.w H s Q u J):EP X B G Q u J:=by obtain⟨v,H',os,a,un,o,r,q⟩:=h;obtain⟨e,g,d,t,x⟩:=J;obtain rfl:x=s.os:=os;exact⟨v,H',I.call (h':=e) (g':=g) (d':=d) (t':=t) (ch:=[]) un o a (λb z=>absurd z (by simp)),r,q⟩
end
noncomputable def GJ(sp:Sp)(dvs:List V)(E:XK)(t:TA):TE:=λG H Q=>t G H λv U=>sp (v++dvs) U Q E
def yH(C:Addr)(m:Str)(sp:Sp)(dvs:List V)(E:XK)(ta:TE)(t:TA):TE:=λG H Q=>ta G H λx U=>∃a dx fs,x=.ref a/\U a=some (.ins C dx fs)/\fs.lookup m=none /\
 t G U λv H2=>sp (x::(v++dvs)) H2 Q E
def GD(C:Addr)(sp:Sp)(dvs:List V)(E:XK)(t:TA):TE:=λG H Q=>t G H λs U=>∀x dx,U x=none->U dx=none->dx≠x ->
 sp (.ref x::(s++dvs)) (cg (cg U dx (.own x)) x (.ins C dx [])) (λv H2=>v=.non/\Q (.ref x) H2) E
def Binds(K:FG)(fd:FuncData)(ps:LS)(ds:LV):Prop:=
 ∀(s:Shared)(Y:LV),K.In s.heap->(Y++ds).length=ps.length->BindsTo s fd ⟨Y,[]⟩ (ps.zip (Y++ds))
theorem Binds.all(h:∀Y:LV,Y.length=ps.length->bindArgs fd ⟨Y,[]⟩=pure (ps.zip Y)):Binds K fd ps []:=λs Y _ l=>by rw[List.append_nil]at l ⊢;exact .of_eq (h Y l)
def kr(CX:yg)(X:Cx)(E:XK):Prop:=∀(B:PN)(G:St)(H:Hp)(s:Shared)(e:Value)(J:Shared),Inv X B G H s->CX X.stack H s E e J->X.xe e J
section
variable{X:Cx}{CX:yg}{k:Nat}{f C:Addr}{fd:FuncData}{ps:LS}{sp:Sp}{dvs:List V}{ds:LV}{E:XK}{x m:Str}{p O apos:Pos}{e o:Expr}{es:Ab}{ta:TE}{t:TA}
set_option tactic.hygienic true in
theorem u7(F:FnOk X.prog X.w X.K X.mg X.base CX k f fd ps sp)(n:Room k X.A)(b:Binds X.K fd ps ds)(hd:aK dvs ds)(c:kr CX X E)
  (I:Inv X B G H s) (r:aK N Y) (h:sp (N++dvs) H Q E):wpAny (model X.prog X.w) X.A (call (.ref f) Y) (EP X B G Q) X.xe s:=by
 have x:aK (N++dvs) (Y++ds):=r.append hd;have a:(Y++ds).length=ps.length:=by rw[<- x.length];exact F.len _ _ _ _ h
 refine wpAny_call (codeAny_mono (F.run X.A X.stack s H ⟨Y,[]⟩ (Y++ds) (N++dvs) Q E n I.env0 (b s Y I.kIn a) x h) λr J q=>?_);cases r with
 |error e=>exact c B G H s e J I q
 |ok l=>
  cases l with
  |ret u=>exact I.after q
  |next=>exact False.elim q
  |brk=>exact False.elim q
  |cont=>exact False.elim q
theorem qZ(F:FnOk X.prog X.w X.K X.mg X.base CX k f fd ps sp)(w:Room k X.A)(g:Gl X x)(v:X.mg x=some (.ref f))(m:PySem.W.keepIn X.K (.ref f)=true)(b:Binds X.K fd ps ds)(hd:aK dvs ds)(u:kr CX X E)
  (n:PA X (e::es) t) (d:(x == ("__debug__":Str))=false:=by decide) (c:starEach (e::es) X.env=(false,eval e X.env)::starEach es X.env:=by rfl) (l:(backTo O (starEach es X.env)).any (·.1)=false:=by rfl) :
  PE X (.Call (.Name x p) (e::es) [] O) (GJ sp dvs E t):=by
 intro B s G H Q I h;refine lg (rF I g v ?_ d);refine qE (h₀:=X.base) I.ok.mod.kin m (cG (n O B s G H _ I h) λY i z=>?_) c l;obtain⟨j,U,a,r,q⟩:=z;refine⟨a.kIn,?_⟩;exact u7 F w b hd u a r q
theorem Bz(j:PE X o ta)(c:Cls X.K C)(d:Meth X.K C m f)(F:FnOk X.prog X.w X.K X.mg X.base CX k f fd ps sp)(y:Room k X.A)(i:Binds X.K fd ps ds)(hd:aK dvs ds)(K:kr CX X E)(g:PA X (e::es) t)
  (n:starEach (e::es) X.env=(false,eval e X.env)::starEach es X.env:=by rfl) (p:(backTo O (starEach es X.env)).any (·.1)=false:=by rfl)
  (S:eval (.Call (.Attribute o m apos) (e::es) [] O) X.env=(do
   let N <- eval o X.env
   standAt apos.atName
   let (f,first) <- holding [N] (getMethod N m pl)
   callWith O f first (backTo O (starEach (e::es) X.env)) (backToKw O (keywordEach [] X.env))):=by rfl) :
  PE X (.Call (.Attribute o m apos) (e::es) [] O) (yH C m sp dvs E ta t):=by
 intro B s G H Q I h;refine PySem.W.methodCall_KW (pl:=pl) (cG (j B s G H _ I h) λu D z=>?_) S;obtain⟨x,U,b,A,a,dx,fs,ex,w,l,q⟩:=z;subst ex;obtain rfl:u=Value.ref a:=A;refine n0 b w c d l ?_;refine qE (first:=[.ref a]) (h₀:=X.base) I.ok.mod.kin d.kp (cG (g O B D G U _ b q) λY L z=>?_) n p;obtain⟨J,H2,v,r,P⟩:=z;refine⟨v.kIn,?_⟩;exact u7 (Y:=.ref a::Y) (N:=.ref a::J) F y i hd K v (.cons rfl r) P
theorem zc(t:PE X o ta)(c:Cls X.K C)(n:Meth X.K C m f)(F:FnOk X.prog X.w X.K X.mg X.base CX k f fd ps sp)(p:Room k X.A)(r:Binds X.K fd ps ds)(hd:aK dvs ds)(d:kr CX X E)
  (v:eval (.Call (.Attribute o m apos) [] [] O) X.env=(do
   let N <- eval o X.env
   standAt apos.atName
   let (f,first) <- holding [N] (getMethod N m pl)
   callWith O f first (backTo O (starEach [] X.env)) (backToKw O (keywordEach [] X.env))):=by rfl) :
  PE X (.Call (.Attribute o m apos) [] [] O) (yH C m sp dvs E ta GA):=by
 intro B s G H Q I h;refine PySem.W.methodCall_KW (pl:=pl) (cG (t B s G H _ I h) λu g z=>?_) v;obtain⟨x,U,e,w,a,dx,fs,ex,b,l,q⟩:=z;subst ex;obtain rfl:u=Value.ref a:=w;refine n0 e b c n l ?_;exact PySem.W.callWith_K0 (first:=[.ref a]) e.kIn n.kp (u7 (Y:=[.ref a]) (N:=[.ref a]) F p r hd d e (.cons rfl .nil) q)
structure Mk(K:FG)(C f:Addr):Prop where
 makes:PySem.W.makesIn K C=true
 init:PySem.W.findIn K (.ref C) "__init__"=some (some (.ref f))
 fn:PySem.W.isFn K (.ref f)=true
 kp:PySem.W.keepIn K (.ref C)=true
set_option tactic.hygienic true in
theorem yR(M:Mk X.K C f)(F:FnOk X.prog X.w X.K X.mg X.base CX k f fd ps sp)(d:Room (k+1) X.A)(t:Binds X.K fd ps ds)(hd:aK dvs ds)
  (w:kr CX X E) (I:Inv X B G H s) (r:aK N Y)
  (h:∀x dx,H x=none->H dx=none->dx≠x->sp (.ref x::(N++dvs)) (cg (cg H dx (.own x)) x (.ins C dx [])) (λv H2=>v=.non/\Q (.ref x) H2) E) :
  wpAny (model X.prog X.w) X.A (call (.ref C) Y) (EP X B G Q) X.xe s:=by
 have n:=h (s.heap.objs.size+1) s.heap.objs.size (I.hok.fresh (mL _)) (I.hok.fresh (Nat.le_refl _)) (b0 (qd _));have a:=Inv.made (C:=C) I;have b:aK (V.ref (s.heap.objs.size+1)::(N++dvs)) (Value.ref (s.heap.objs.size+1)::(Y++ds)):=.cons rfl (r.append hd);have p:(Value.ref (s.heap.objs.size+1)::Y++ds).length=ps.length:=by have e:=b.length;rw[F.len _ _ _ _ n]at e;exact e.symm
 refine wpAny_call (zG (f:=f) I.kIn M.makes M.init (jZ.mp M.fn) (codeAny_mono (F.run _ X.stack _ _ ⟨Value.ref (s.heap.objs.size+1)::Y,[]⟩ (Value.ref (s.heap.objs.size+1)::(Y++ds)) _ _ E (d.make C Y [])
  (a.env0.make C Y []) (t _ (Value.ref (s.heap.objs.size+1)::Y) a.kIn p) b n) λr J q=>?_))
 cases r with
 |error e=>exact w B G _ _ e J a q
 |ok l=>
  cases l with
  |ret u=>obtain⟨v,H',c,i,m,g⟩:=a.after q;subst m;exact⟨i,⟨V.ref (s.heap.objs.size+1),H',c,rfl,g⟩⟩
  |next=>exact False.elim q
  |brk=>exact False.elim q
  |cont=>exact False.elim q
theorem BA(M:Mk X.K C f)(F:FnOk X.prog X.w X.K X.mg X.base CX k f fd ps sp)(v:Room (k+1) X.A)(g:Gl X x)(m:X.mg x=some (.ref C))(b:Binds X.K fd ps ds)(hd:aK dvs ds)(w:kr CX X E)
  (n:PA X (e::es) t) (d:(x == ("__debug__":Str))=false:=by decide) (c:starEach (e::es) X.env=(false,eval e X.env)::starEach es X.env:=by rfl) (l:(backTo O (starEach es X.env)).any (·.1)=false:=by rfl) :
  PE X (.Call (.Name x p) (e::es) [] O) (GD C sp dvs E t):=by
 intro B s G H Q I h;refine lg (rF I g m ?_ d);refine qE (h₀:=X.base) I.ok.mod.kin M.kp (cG (n O B s G H _ I h) λY u z=>?_) c l;obtain⟨i,U,a,r,q⟩:=z;refine⟨a.kIn,?_⟩;exact yR M F v b hd w a r q
end
section
variable{X:Cx}{CX:yg}{k:Nat}{f C:Addr}{fd:FuncData}{ps ks:LS}{sp:Sp}{E:XK}{x m:Str}{p O apos kpos:Pos}{e o:Expr}{es:Ab}{kws:List Keyword}{te ta:TE}{t tk:TA}{nm:Option Str}
structure KBinds(K:FG)(fd:FuncData)(ps ks:LS)(g:LV->LV->LV)(gV:List V->List V->List V):Prop where
 to:∀(s:Shared)(us ws:LV),K.In s.heap->(g us ws).length=ps.length->BindsTo s fd ⟨us,ks.zip ws⟩ (ps.zip (g us ws))
 rel:∀{vs:List V}{us:LV}{zs:List V}{ws:LV},aK vs us->aK zs ws->aK (gV vs zs) (g us ws)
variable{g:LV->LV->LV}{gV:List V->List V->List V}
end
structure FnScope(N P:LS)(sc:Scope):Prop where
 kind:sc.kind=.function
 co:sc.isCoroutine=false
 gen:sc.isGenerator=false
 nd:N.Nodup
 pre:N.take P.length=P
 par:∀x ∈ P,sc.names.lookup x=some .local\/sc.names.lookup x=some .cell
 nofree:∀y ∈ sc.names,y.2≠.free
theorem p6{kindOf:Str->Option NameKind}{x:Str}:∀{b:List (Str×Value)}{m:SV},(∀v,(x,v) ∉ b)->bindL kindOf b m x=m x
 | [],_,_=>rfl
 |(n,v)::r,m,h=>by
  unfold bindL;rw[p6 λw hw=>h w (aS _ hw)];split
  .have:x≠n:=by rintro rfl;exact h v List.mem_cons_self
   simp[this]
  .rfl
theorem p9{kindOf:Str->Option NameKind}{x:Str}:∀{b:List (Str×Value)}{m:SV},(∀v,(x,v) ∉ b)->bindC kindOf b m x=m x
 | [],_,_=>rfl
 |(n,v)::r,m,h=>by
  unfold bindC;rw[p9 λw hw=>h w (aS _ hw)];split
  .rfl
  .have:x≠n:=by rintro rfl;exact h v List.mem_cons_self
   simp[this]
theorem p7{kindOf:Str->Option NameKind}{x:Str}{v:Value}:∀{P:LS}{s:LV}{i:Nat}{m:SV},P.Nodup->P[i]? = some x->s[i]? = some v->kindOf x=some .local ->
  bindL kindOf (P.zip s) m x=some v
 | [],_,_,_,_,h,_,_=>by simp at h
 |_::_,[],_,_,_,_,h,_=>by simp at h
 |p::P,w::s,0,m,n,z,h2,k=>by simp at z h2;subst z;subst h2;show bindL kindOf ((p,w)::P.zip s) m p=_;unfold bindL;rw[p6 λv a=>(List.nodup_cons.mp n).1 (List.of_mem_zip a).1,if_pos k];simp
 |p::P,w::s,i+1,m,n,z,h2,k=>by show bindL kindOf ((p,w)::P.zip s) m x=_;unfold bindL;exact p7 (i:=i) (List.nodup_cons.mp n).2 (by simpa using z) (by simpa using h2) k
theorem p_{kindOf:Str->Option NameKind}{x:Str}{v:Value}:∀{P:LS}{s:LV}{i:Nat}{m:SV},P.Nodup->P[i]? = some x->s[i]? = some v->kindOf x≠some .local ->
  bindC kindOf (P.zip s) m x=some v
 | [],_,_,_,_,h,_,_=>by simp at h
 |_::_,[],_,_,_,_,h,_=>by simp at h
 |p::P,w::s,0,m,n,z,h2,k=>by simp at z h2;subst z;subst h2;show bindC kindOf ((p,w)::P.zip s) m p=_;unfold bindC;rw[p9 λv a=>(List.nodup_cons.mp n).1 (List.of_mem_zip a).1,if_neg k];simp
 |p::P,w::s,i+1,m,n,z,h2,k=>by show bindC kindOf ((p,w)::P.zip s) m x=_;unfold bindC;exact p_ (i:=i) (List.nodup_cons.mp n).2 (by simpa using z) (by simpa using h2) k
noncomputable def start(N:LS)(v:List V):St:=v.map some++List.replicate (N.length-v.length) none
noncomputable def uu(CX:yg)(P:Program)(w:World)(K:FG)(mg:SV)(base:Heap)(N:LS)(q:Str)(c:Scope)(f:Addr)(d:Value)(A:Around)(o:List Env)(s:Shared)(H:Hp)(E:XK):Cx where
 prog:=P
 w:=w
 K:=K
 mg:=mg
 base:=base
 A:=A.deeper (envOfC q c s.heap.objs.size f d)
 N:=N
 s₀:=s
 H₀:=H
 env:=envOfC q c s.heap.objs.size f d
 outer:=o
 stack:=envOfC q c s.heap.objs.size f d::o
 ex:=[]
 calm:=true
 fn:=λ_=>true
 pn:=[]
 xe:=λe J=>wpAny (model P w) (A.deeper (envOfC q c s.heap.objs.size f d)) (leaving (envOfC q c s.heap.objs.size f d) e) (λ_ h=>CX o H s E e h) (λx h=>CX o H s E x h) J
variable{x:Str}
theorem uD{sc:Scope}(h:sc.names.lookup x=some .cell):∃c,(cellsFrom n sc.names []).lookup x=some c:=by have q:=PySem.W.cellsFrom_some sc.names n [] (.inl h);exact Option.isSome_iff_exists.mp q
theorem xM{CX:yg}{P:Program}{w:World}{K:FG}{mg:SV}{base:Heap}{N ps:LS}{l:Str}{o:Scope}{f:Addr}{G:Value}{A:Around}{d:List Env}{s L:Shared}{H:Hp}{E:XK}{Y:LV}{B:List V}
  (S:FnScope N ps o) (hd:A.handled=none) (g:Env0 P w K mg base A d s H) (T:B.length=ps.length) (r:aK B Y)
  (x:InCallC s s.heap.objs.size (bindL (envOfC l o s.heap.objs.size f G).kindOf (ps.zip Y) λ_=>none) (cellsFrom (s.heap.objs.size+1) o.names []) (bindC (envOfC l o s.heap.objs.size f G).kindOf (ps.zip Y) λ_=>none) L) :
  Inv (uu CX P w K mg base N l o f G A d s H E) [] (start N B) H L:=by
 have O:ps.length≤N.length:=by have:=congrArg List.length S.pre;rw[iu]at this;lia
 obtain⟨z,tk,rfl,I⟩:=x.done;have F:∀b:Addr,b ∉ (uu CX P w K mg base N l o f G A d s H E).ex:=fun b m=>absurd (show b ∈ ([]:List Addr) from m) (by simp);refine⟨⟨g.mod,S.kind,rfl,rfl,Nat.le_refl _,fun y m c z h2=>?_,fun y j=>?_,fun y c _ h=>?_,fun _=>hd,Around.frames_deeper g.frames,.inr ⟨rfl,rfl⟩,fun b m=>absurd m (F b),g.bs,g.bsz,fun b _ _=>F b,fun b m=>absurd m (F b),g.funs,g.frf⟩,
  rfl,g.bare,Un.kept I,⟨_,x.toInCall.ns,λi y v z h2 R=>?_⟩,λy c h=>⟨_,x.cell y c h⟩,g.hok.fresh (Nat.le_refl _),λy c h=>?_,λp C=>absurd (show p ∈ ([]:PN) from C) (by simp),g.hok.kept I,?_⟩
 .exact name_of_addr x.apart (nj z) (nj h2)
 .have j:o.names.lookup y=some .cell\/o.names.lookup y=some .free:=j;rcases j with j|j
  .exact uD j
  .exact absurd rfl (S.nofree _ (nj j))
 .exact iq (x.above y c (nj h))
 .have q:i < B.length:=by
   unfold start at h2;by_cases q:i < B.length
   .exact q
   .rw [fB (by simpa using q)]at h2;rw[qL]at h2;split at h2<;>cases h2
  have M:B[i]? = some v:=by
   unfold start at h2;rw[List.getElem?_append_left (by simpa using q),List.getElem?_map]at h2;cases e:B[i]? with
   |none=>rw[e]at h2;cases h2
   |some a=>rw[e]at h2;cases h2;rfl
  obtain⟨u,J,Q⟩:=r.get M;have C:ps[i]? = some y:=by rw[<- S.pre,iz (by lia)];exact z
  have D:ps.Nodup:=by rw[<- S.pre];exact S.nd.sublist (qz _ _)
  refine⟨u,Q,?_⟩;rcases S.par y (bH C) with k|k
  .exact .inl ⟨k,p7 D C J k⟩
  .obtain⟨c,e⟩:=uD (n:=s.heap.objs.size+1) k;refine .inr ⟨.inl k,c,e,?_⟩;have t:=x.cell y c e;rw[p_ D C J (by show o.names.lookup y≠_;rw[k];decide)]at t;exact t
 .exact g.hok.fresh (iq (x.above y c (nj h)))
 .unfold start;show _=N.length;rw[cJ,a9,List.length_replicate];lia
set_option tactic.hygienic true in
theorem HU{CX:yg}{P:Program}{w:World}{K:FG}{mg:SV}{base:Heap}{k:Nat}{f:Addr}{name l:Str}{p:Arguments}{m:List Stmt}{c:Scope}{dV kV B pm d Z oc:Value}{U od:Option Addr}
  {R:Array (OV)}{N ps:LS}{sp:Sp} (lk:K.lookup f=some ⟨oc,od,.func (PySem.W.fnOf name l p m c dV kV B pm U d Z),R⟩) (L:PySem.W.codeIn K d l=true) (S:FnScope N ps c)
  (len:∀g H Q E,sp g H Q E->g.length=ps.length)
  (j:∀(A:Around) (a:List Env) (s:Shared) (H:Hp) (g:List V) (Q:VK) (E:XK),Room k (A.deeper (envOfC l c s.heap.objs.size f d))->sp g H Q E ->
   ∃t,mJ (uu CX P w K mg base N l c f d A a s H E) m t/\t { nx:=λ_ H'=>Q .non H',rt:=Q } (start N g) H) :
  FnOk P w K mg base CX (k+1) f (PySem.W.fnOf name l p m c dV kV B pm U d Z) ps sp:=by
 refine⟨len,λA a s H W Y g Q E M C hb r G=>?_⟩;have hl:=len _ _ _ _ G;have X:K.In s.heap:=C.mod.kin.keeps λb o e=>(C.bs b o e).1;have O:s.heap.NoLimit:=C.mod.nolimit.keeps λb o e=>(C.bs b o e).1;have z:∀y ∈ ps.zip Y,c.names.lookup y.1=some .local\/(c.names.lookup y.1=some .cell/\((cellsFrom (s.heap.objs.size+1) c.names []).lookup y.1).isSome=true):=λ⟨n,v⟩ hy=>by
  rcases S.par n (List.of_mem_zip hy).1 with q|q
  .exact .inl q
  .exact .inr ⟨q,PySem.W.cellsFrom_some _ _ _ (.inl q)⟩
 refine codeAny_call_function M.depth (X _ _ lk) rfl S.co S.gen rfl (PySem.W.codeRec_of X L) (hb _ _ _ _ ?_);refine wpAny_newFunctionEnv_cells S.kind z λenv he s1 x=>?_;subst he;refine⟨O.keeps x.toInCall.keep,codeAny_func ?_⟩;obtain⟨t,ht,hq⟩:=j A a s H g Q E (M.deeper _) G;have I:Inv (uu CX P w K mg base N l c f d A a s H E) [] (start N g) H s1:=xM S M.hd C hl r x;refine wpAny_mono (ht [] s1 (start N g) H _ I hq) (λfl J F=>?_) λe J F=>F;have D:∀{i:St}{H':Hp}{v:V}{u:Value},Inv (uu CX P w K mg base N l c f d A a s H E) [] i H' J->RelV v u->Q v H'->CE a P w H s Q u J:=
  λ{i H' v u} h T q=>⟨v,H',h.os,h.bare,h.base,h.hok,T,q⟩
 cases fl with
 |ret u=>obtain⟨v,i,H',h,T,q⟩:=F;exact D h T q
 |next=>obtain⟨i,H',h,q⟩:=F;exact D (v:=V.non) (u:=Value.none) h rfl q
 |brk=>obtain⟨_,_,_,q⟩:=F;exact False.elim q
 |cont=>obtain⟨_,_,_,q⟩:=F;exact False.elim q
section
variable{X:Cx}{x:Str}{p O:Pos}{e:Expr}{es:Ab}{t:TA}{id T:String}{r:List V->Hp->VK->Prop}
noncomputable def Le(r:List V->Hp->VK->Prop)(t:TA):TE:=λG H Q=>t G H λv U=>r v U Q
theorem nM(c:eF X (.builtin id) r)(g:Gl X x)(m:X.mg x=none)(v:bootBuiltins x=some (.builtin id))(n:PA X (e::es) t)(f:x≠"__name__":=by decide)(d:(x == ("__debug__":Str))=false:=by decide)
  (k:starEach (e::es) X.env=(false,eval e X.env)::starEach es X.env:=by rfl) (l:(backTo O (starEach es X.env)).any (·.1)=false:=by rfl):PE X (.Call (.Name x p) (e::es) [] O) (Le r t):=by
 intro B s G H Q I h;refine lg (lC I g m v ?_ f d);exact PyProof.Rows.callWith_builtin1 (cG (n O B s G H _ I h) λY w z=>by obtain⟨u,U,a,b,q⟩:=z;exact c B w G U u Y Q a b q) k l
theorem lA(c:eF X (.type T) r)(g:Gl X x)(m:X.mg x=none)(v:bootBuiltins x=some (.type T))(n:PA X (e::es) t)(f:x≠"__name__":=by decide)(d:(x == ("__debug__":Str))=false:=by decide)
  (k:starEach (e::es) X.env=(false,eval e X.env)::starEach es X.env:=by rfl) (l:(backTo O (starEach es X.env)).any (·.1)=false:=by rfl):PE X (.Call (.Name x p) (e::es) [] O) (Le r t):=by
 intro B s G H Q I h;refine lg (lC I g m v ?_ f d);exact nr (cG (n O B s G H _ I h) λY w z=>by obtain⟨u,U,a,b,q⟩:=z;exact c B w G U u Y Q a b q) k l
end
end L2
namespace HT
open PySem PyProof.Rows
section
variable{prog:Program}{w:World}{A:Around}{E:VP}{s:Shared}
theorem Ci(u:IsTup s.heap t vs.toArray)(q:IsTup s.heap b N.toArray)(v:vs≠[])
  (z:N=[]->Q (.ref t) s) (h2:N≠[]->Q (.ref s.heap.objs.size) { s with heap:=s.heap.push { cls:=.type "tuple",data:=.seq (vs++N).toArray } })
  (a:vs.length+N.length≤sizeLine):wpAny (model prog w) A (binaryOp .Add (.ref t) (.ref b)) Q E s:=by
 obtain⟨⟨cls,f,data,p⟩,o,m,n,hd⟩:=id u;obtain⟨⟨k,d,data2,l⟩,h,c,r,x⟩:=id q;simp only at m hd c x;subst m hd c x;have e:vs.toArray++N.toArray=(vs++N).toArray:=by simp
 by_cases hw:N=[]
 .exact concat_meets ⟨_,o,rfl⟩ ⟨_,h,rfl⟩ noFill_tuple_add seq_tuple_add qK uQ (uT _ _)
   (tuple_addW1 t b vs.toArray N.toArray n r f d p l (by simpa using v) (by simp[hw])) ⟨o,h,z hw⟩
 .refine concat_meets ⟨_,o,rfl⟩ ⟨_,h,rfl⟩ noFill_tuple_add seq_tuple_add qK uQ (uT _ _)
   (tuple_addW2 t b vs.toArray N.toArray n r f d p l (by simpa using v) (by simpa using hw) (by rw[List.size_toArray,List.size_toArray];exact a)) ⟨o,h,?_⟩
  rw[e];exact h2 hw
noncomputable def eH(n d:Nat):Option Int->Nat
 |none=>d
 |some v=>if v < 0 then (v+(n:Int)).toNat else min v.toNat n
theorem tm(n d:Nat):eH n d none=d:=rfl
theorem wj(n d k:Nat):eH n d (some (k:Int))=min k n:=by show(if (k:Int) < 0 then ((k:Int)+(n:Int)).toNat else min (k:Int).toNat n)=min k n;rw[if_neg (by lia),Int.toNat_natCast]
theorem DO(n d:Nat)(hd:d≤n)(o:Option Int):eH n d o≤n:=by
 cases o with
 |none=>exact hd
 |some v=>
  show(if v < 0 then (v+(n:Int)).toNat else min v.toNat n)≤n;by_cases h:v < 0
  .rw [if_pos h];lia
  .rw [if_neg h];exact Nat.min_le_right _ _
theorem wV(v:Int)(n d:Nat):(if v < 0 then max (v+(n:Int)) 0 else min v (n:Int))=((eH n d (some v):Nat):Int):=by
 show(if v < 0 then max (v+(n:Int)) 0 else min v (n:Int))=(((if v < 0 then (v+(n:Int)).toNat else min v.toNat n):Nat):Int);by_cases h:v < 0
 .simp only[if_pos h];lia
 .simp only[if_neg h];lia
theorem vR(I q:Option Int)(n:Nat):Builtin.Slice.sliceAdjust I q 1 (n:Int)=(((eH n 0 I:Nat):Int),((eH n n q:Nat):Int)):=by
 have z:¬((1:Int) < 0):=by lia
 unfold Builtin.Slice.sliceAdjust;simp only[z,if_false];refine Prod.ext ?_ ?_
 .cases I with
  |none=>rfl
  |some v=>exact wV v n 0
 .cases q with
  |none=>rfl
  |some v=>exact wV v n n
theorem u_(i j:Nat):Builtin.Slice.slicePlaces (i:Int) (j:Int) 1=j-i:=by
 unfold Builtin.Slice.slicePlaces;have z:(1:Int) > 0:=by lia
 simp only[z,iB,Int.ediv_one];split<;>lia
theorem nD(p:IsPart v o)(h:Q o s):wpAny (model prog w) A (Builtin.Slice.slicePartIndex v) Q E s:=by
 cases p with
 |none=>exact slicePart_none h
 |int i t=>exact slicePart_int h
theorem h_{l:Addr}{v u:Value}{I q:Option Int}{n:Nat}{Q:Int×Int×Nat->Shared->Prop}(a:s.heap.IsSliceOf l v u .none)(p:IsPart v I)(e:IsPart u q)
  (h:Q (((eH n 0 I:Nat):Int),1,eH n n q-eH n 0 I) s):wpAny (model prog w) A (Builtin.Slice.sliceApplied (.ref l) (pure (n:Int))) Q E s:=by
 obtain⟨os,o,c,d⟩:=id a;unfold Builtin.Slice.sliceApplied Builtin.Slice.sliceFields;refine wpAny_bind (wpAny_bind (wpAny_field o d (x:=v) rfl (wpAny_bind (wpAny_field o d (x:=u) rfl (wpAny_bind (wpAny_field o d (x:=.none) rfl (wpAny_pure ?_)))))));refine wpAny_bind (slicePart_none ?_);show wpAny _ _ (if ((1:Int) == 0)=true then _ else _) _ _ s;rw[if_neg (by decide)];refine wpAny_bind (nD p (wpAny_bind (nD e (wpAny_bind (wpAny_pure ?_)))));show wpAny _ _ (match Builtin.Slice.sliceAdjust I q 1 (n:Int) with|(I,q)=>pure (I,(1:Int),Builtin.Slice.slicePlaces I q 1)) _ _ s;rw[vR I q n];show wpAny _ _ (pure (((eH n 0 I:Nat):Int),(1:Int),Builtin.Slice.slicePlaces ((eH n 0 I:Nat):Int) ((eH n n q:Nat):Int) 1)) _ _ s;rw[u_];exact wpAny_pure h
theorem y7(xs:Array Value)(i k:Nat):((List.range k).filterMap λ(m:Nat)=>xs[((i:Int)+(m:Int) * 1).toNat]?).toArray=((xs.toList.drop i).take k).toArray:=by
 have e:(λ(m:Nat)=>xs[((i:Int)+(m:Int) * 1).toNat]?)=λm=>xs[i+m]?:=by
  funext m;have:((i:Int)+(m:Int) * 1).toNat=i+m:=by lia
  rw[this]
 rw[e];have:=pick_run xs i k
 rw[List.filterMap_map]at this;have h:((λx=>xs[x]?) ∘ λx=>i+x)=λm=>xs[i+m]?:=rfl;rw[h]at this;rw[this]
theorem kP{t l:Addr}{i:Array Value}{v u:Value}{I q:Option Int}{Q:VP}(e:IsTup s.heap t i)(k:s.heap.IsSliceOf l v u .none)(p:IsPart v I)(f:IsPart u q)
  (hw:¬(eH i.size 0 I=0/\eH i.size i.size q=i.size))
  (h:Q (.ref s.heap.objs.size) { s with heap:=s.heap.push { cls:=.type "tuple",data:=.seq ((i.toList.drop (eH i.size 0 I)).take (eH i.size i.size q-eH i.size 0 I)).toArray } })
  (z:i.size≤sizeLine):wpAny (model prog w) A (getItem (.ref t) (.ref l)) Q E s:=by
 have a:sizeOk (.seq ((i.toList.drop (eH i.size 0 I)).take (eH i.size i.size q-eH i.size 0 I)).toArray):=by show((i.toList.drop (eH i.size 0 I)).take (eH i.size i.size q-eH i.size 0 I)).toArray.size≤sizeLine;rw[List.size_toArray,iu,qx,li];lia
 have j:eH i.size i.size q≤i.size:=DO _ _ (Nat.le_refl _) q;obtain⟨os,o,c,d⟩:=id k;have T:s.TypeIs (.ref l) "slice":=⟨os,o,c⟩;unfold getItem;try with_reducible refine wpAny_holding ?_
 first|refine wpAny_bind (wpAny_pure ?_)|skip
 refine wpAny_bind (wpAny_sequenceKey e.typeIs (by decide) ?_);refine wpAny_bind (wpAny_callSpecial?_slot (name:=Str.ofString "__getitem__") e.typeIs j0
  (wpAny_call_entry j0 e.typeIs entry_tuple_getitem ?_ (args_tuple_getitem _ _)))
 show wpAny _ _ (Builtin.Tuple.tupleItemsOf (.ref t) >>= _) _ _ s;refine wpAny_bind (tupleItemsOf_ e ?_);refine wpAny_bind (kz T ?_);rw[if_pos (by decide)];refine wpAny_bind (h_ k p f ?_);have n:¬((((eH i.size 0 I:Nat):Int) == 0 && (1:Int) == 1 && (eH i.size i.size q-eH i.size 0 I) == i.size)=true):=by intro x;rw[Bool.and_eq_true,Bool.and_eq_true]at x;have b:((eH i.size 0 I:Nat):Int)=0:=eq_of_beq x.1.1;have r:eH i.size i.size q-eH i.size 0 I=i.size:=eq_of_beq x.2;exact hw ⟨by lia,by lia⟩
 show wpAny _ _ (if (((eH i.size 0 I:Nat):Int) == 0 && (1:Int) == 1 && (eH i.size i.size q-eH i.size 0 I) == i.size)=true then _ else _) _ _ s;rw[if_neg n,y7];first
  |exact wpAny_bind (m:=Builtin.Tuple.tupleExact _) (wpAny_newObj_type (wpAny_pure ⟨_,rfl,wpAny_pure h⟩) a)
  |exact wpAny_bind (m:=Builtin.Tuple.tupleExact _) (wpAny_newObj_type (wpAny_bind (wpAny_pure (wpAny_pure ⟨_,rfl,wpAny_pure h⟩))) a)
  |exact wpAny_bind (wpAny_bind (m:=Builtin.Tuple.tupleExact _) (wpAny_newObj_type (wpAny_pure (wpAny_pure ⟨_,rfl,wpAny_pure h⟩)) a))
  |exact wpAny_bind (wpAny_bind (m:=Builtin.Tuple.tupleExact _) (wpAny_newObj_type (wpAny_pure ⟨_,rfl,wpAny_pure h⟩) a))
end
end HT
namespace L2
open PySem PySem.Spec PyProof.Rows
noncomputable abbrev TO:=St->Hp->(Option Int->Hp->Prop)->Prop
def PO(X:Cx)(e:Option Expr)(t:TO):Prop:=
 ∀(B:PN)(s:Shared)(G:St)(H:Hp)(Q:Option Int->Hp->Prop),Inv X B G H s->t G H Q ->
  wpAny (model X.prog X.w) X.A (evalPart e X.env) (λu J=>∃o H',Inv X B G H' J/\IsPart u o/\Q o H') X.xe s
noncomputable def A':TO:=λ_ H Q=>Q none H
noncomputable def Gy(t:TE):TO:=λG H Q=>t G H λx U=>∃i,x=.int i/\Q (some i) U
section
variable{X:Cx}{e:Expr}{te:TE}{I q:Option Expr}{tl th:TO}{O p2:Pos}
theorem Bv:PO X none A':=by intro B s G H Q I h;rw[evalPart_none];exact wpAny_pure ⟨none,H,I,.none,h⟩
theorem Bt(h:PE X e te):PO X (some e) (Gy te):=by
 intro B s G H Q I hw;rw[evalPart_some];refine cG (h B s G H _ I hw) λu k z=>?_
 obtain⟨x,U,a,r,n⟩:=z;obtain⟨i,rfl,q⟩:=n;obtain⟨t,rfl⟩:=r;exact⟨some i,U,a,.int i t,q⟩
def Dd(X:Cx)(r:V->Option Int->Option Int->Hp->VK->Prop):Prop:=
 ∀(B:PN)(s:Shared)(G:St)(H:Hp)(x:V)(v h u:Value)(I q:Option Int)(l:Addr)(Q:VK),Inv X B G H s->RelV x v->s.heap.IsSliceOf l h u .none->IsPart h I->IsPart u q->r x I q H Q ->
  ∃T id,typeLookup (.type T) "__getitem__"=pure (some (.builtin id))/\s.TypeIs v T/\wpAny (model X.prog X.w) X.A (getItem v (.ref l)) (EP X B G Q) X.xe s
theorem Dd.or(h:Dd X r)(h':Dd X N):Dd X (λx I q H Q=>r x I q H Q\/N x I q H Q):=by
 intro B s G H x v f b I q l Q a k n p u e;rcases e with e|e
 .exact h B s G H x v f b I q l Q a k n p u e
 .exact h' B s G H x v f b I q l Q a k n p u e
noncomputable def L5(r:V->Option Int->Option Int->Hp->VK->Prop)(te:TE)(tl th:TO):TE:=λG H Q=>te G H λx U=>tl G U λl H2=>th G H2 λu h=>r x l u h Q
theorem y_(o:Dd X r)(i:PE X e te)(y:PO X I tl)(F:PO X q th):PE X (.Subscript e (.Slice I q none p2) O) (L5 r te tl th):=by
 intro B s G H Q a h;refine Subscript_ (cG (i B s G H _ a h) λv J z=>?_);obtain⟨x,U,t,E,A⟩:=z;refine wpAny_Slice (cG (y B J G U _ t A) λf L ⟨l,H2,p,K,C⟩=>cG (F B L G H2 _ p C) λc k z=>?_);obtain⟨u,m,d,P,D⟩:=z;rw[evalPart_none];refine wpAny_pure ?_;have w:Inv X B G m { k with heap:=k.heap.push { cls:=.type "slice",data:=.fields #[f,c,.none] } }:=d.kept (t':=k.toks) λb M n=>Heap.get?_push_of_some _ n
 obtain⟨T,id,g,S,j⟩:=o B { k with heap:=k.heap.push { cls:=.type "slice",data:=.fields #[f,c,.none] } } G m x v f c l u k.heap.objs.size Q w E (Heap.IsSliceOf.new ..) K P D;show wpAny (model X.prog X.w) X.A (subscriptTail e (.Slice I q none p2) v (.ref k.heap.objs.size)) (EP X B G Q) X.xe { k with heap:=k.heap.push { cls:=.type "slice",data:=.fields #[f,c,.none] } };exact tail_any (ops:=[.ref k.heap.objs.size,v]) S g j (by with_unfolding_all rfl)
def uw(xs:List V)(I q:Option Int):List V:=(xs.drop (HT.eH xs.length 0 I)).take (HT.eH xs.length xs.length q-HT.eH xs.length 0 I)
theorem ml(xs:List V)(I q:Option Int):(uw xs I q).length≤xs.length:=by unfold uw;rw[iu,qx];lia
def Kd(K:FG):V->Option Int->Option Int->Hp->VK->Prop:=λx I q H Q=>∃a xs,x=.ref a/\sO K H a xs /\
 ¬(HT.eH xs.length 0 I=0/\HT.eH xs.length xs.length q=xs.length)/\∀p,H p=none->Q (.ref p) (cg H p (.tup (uw xs I q)))
theorem DM:Dd X (Kd X.K):=by
 intro B s G H x v w g I q d Q e c k p u h;obtain⟨a,xs,rfl,f,hw,n⟩:=h;cases c;obtain⟨i,r,t,z⟩:=e.tuple f;have l:i.toArray.size=xs.length:=by rw[List.size_toArray];exact r.length.symm
 refine⟨"tuple",_,j0.lookup,t.typeIs,?_⟩;refine HT.kP t k p u (by rw[l];exact hw) ?_ (by rw[l];exact z);rw[l];refine⟨.ref s.heap.objs.size,_,e.laid (t':=s.toks) (o:=.tup (uw xs I q)) (λb m n=>Heap.get?_push_of_some _ n) (Nat.le_refl _) ?_,rfl,n _ (e.hok.fresh (Nat.le_refl _))⟩;exact⟨aM (ml xs I q) z,_,(r.drop (HT.eH xs.length 0 I)).take (HT.eH xs.length xs.length q-HT.eH xs.length 0 I),lW.new _ _⟩
def GZ(K:FG):R2:=λx y H Q=>∃a b xs ys,x=.ref a/\y=.ref b/\sO K H a xs/\sO K H b ys/\xs≠[]/\xs.length+ys.length≤sizeLine /\
 (ys=[]->Q (.ref a) H)/\(ys≠[]->∀p,H p=none->Q (.ref p) (cg H p (.tup (xs++ys))))
theorem aK.nil_iff(r:aK xs Y):Y=[]↔xs=[]:=by
 cases r with
 |nil=>simp
 |cons _ _=>simp
theorem BH:ip X (binaryOp .Add) (GZ X.K):=by intro B s G H x y v u Q I g j h;obtain⟨a,b,xs,ys,rfl,rfl,k,f,c,n,m,d⟩:=h;cases g;cases j;obtain⟨t,e,p,_⟩:=I.tuple k;obtain⟨i,r,p2,_⟩:=I.tuple f;refine HT.Ci p p2 (λz=>c (e.nil_iff.mp z)) (λz=>⟨.ref a,H,I,rfl,m (r.nil_iff.mp z)⟩) (λz=>?_) (by rw[<- e.length,<- r.length];exact n);refine⟨.ref s.heap.objs.size,_,I.laid (t':=s.toks) (o:=.tup (xs++ys)) (λb l q=>Heap.get?_push_of_some _ q) (Nat.le_refl _) ?_,rfl,d (λw=>z (r.nil_iff.mpr w)) _ (I.hok.fresh (Nat.le_refl _))⟩;exact⟨by rw[cJ];exact n,_,e.append r,lW.new _ _⟩
end
noncomputable def xK(n:Nat)(i:Int):Option Nat:=if 0≤i then (if i < n then some i.toNat else none) else if -(n:Int)≤i then some (i+n).toNat else none
variable{α:Type}
def atI(xs:List α)(i:Int):Option α:=(xK xs.length i).bind λj=>xs[j]?
variable{n:Nat}
theorem wD{i:Int}(h:xK n i=some N):seqIndex? i n=some N/\N < n/\-(n:Int)≤i/\i < n:=by
 unfold xK at h;by_cases x:0≤i
 .rw [if_pos x]at h;by_cases z:i < n
  .rw [if_pos z]at h;have e:i.toNat=N:=Option.some.inj h;exact⟨by rw[seqIndex_of x z,e],by lia,by lia,z⟩
  .rw [if_neg z]at h;cases h
 .rw [if_neg x]at h;by_cases z:-(n:Int)≤i
  .rw [if_pos z]at h;have e:(i+n).toNat=N:=Option.some.inj h;exact⟨by rw[seqIndex_neg (by lia) z,e],by lia,z,by lia⟩
  .rw [if_neg z]at h;cases h
theorem sN{i:Int}(h:atI xs i=some v):∃j,seqIndex? i xs.length=some j/\xs[j]? = some v/\j < xs.length/\-(xs.length:Int)≤i/\i < xs.length:=by
 unfold atI at h;cases e:xK xs.length i with
 |none=>rw[e]at h;cases h
 |some j=>rw[e]at h;obtain⟨z,h2,x,a⟩:=wD e;exact⟨j,z,h,h2,x,a⟩
theorem atI_last(xs:List α)(v:α):atI (xs++[v]) (-1)=some v:=by
 have h:(xs++[v]).length=xs.length+1:=by simp
 have e:xK (xs++[v]).length (-1)=some xs.length:=by unfold xK;rw[h,if_neg (by decide),if_pos (by lia)];congr 1;lia
 unfold atI;rw[e];show(xs++[v])[xs.length]? = some v;simp
def k7(b:Expr):Prop:=∀o i,subscripted b false o i=operate [o,i] (getItem o i)
def AL(X:Cx)(r:R2):Prop:=
 ∀(value l:Expr)(B:PN)(s:Shared)(G:St)(H:Hp)(x y:V)(v u:Value)(Q:VK),Inv X B G H s->RelV x v->RelV y u->r x y H Q ->
  subscripted l false v u=operate [v,u] (getItem v u)->wpAny (model X.prog X.w) X.A (subscriptTail value l v u) (EP X B G Q) X.xe s
def MN(X:Cx)(id:String)(r:V->List V->Hp->VK->Prop):Prop:=
 ∀(B:PN)(s:Shared)(G:St)(H:Hp)(x:V)(xs:List V)(v:Value)(Y:LV)(Q:VK),Inv X B G H s->RelV x v->aK xs Y->r x xs H Q ->
  wpAny (model X.prog X.w) X.A (call (.builtin id) (v::Y)) (EP X B G Q) X.xe s
section
variable{X:Cx}{a b:Expr}{ta tb:TE}{O:Pos}
theorem AL.or(h:AL X r)(h':AL X N):AL X (λx y H Q=>r x y H Q\/N x y H Q):=by
 intro value l B s G H x y v u Q I e n q a;rcases q with q|q
 .exact h value l B s G H x y v u Q I e n q a
 .exact h' value l B s G H x y v u Q I e n q a
theorem ze(f:AL X r)(n:PE X a ta)(k:PE X b tb)(c:k7 b):PE X (.Subscript a b O) (DF r ta tb):=by intro B s G H Q I h;exact Subscript_ (Fg n k I h λv u p x y H2 e m t q=>f a b B p G H2 x y v u Q e m t q (c _ _))
def Kj(K:FG):R2:=λx y H Q=>∃p xs i v,x=.ref p/\y=.int i/\hX K H p xs/\atI xs i=some v/\Q v H
def Kh(K:FG):R2:=λx y H Q=>∃p xs i v,x=.ref p/\y=.int i/\sO K H p xs/\atI xs i=some v/\Q v H
def Ki:R2:=λx y H Q=>∃z i c,x=.str z/\y=.int i/\z.length≤sizeLine/\atI z.cps.toList i=some c/\Q (.str ⟨#[c]⟩) H
theorem rG:AL X (Kj X.K):=by
 intro value c B s G H x y v u Q I P A h d;obtain⟨p,xs,i,a,rfl,rfl,K,S,q⟩:=h;cases P;obtain⟨t,rfl⟩:=A;obtain⟨n,r,l,E⟩:=I.list K;obtain⟨j,z,h2,C,g,o⟩:=sN S;obtain⟨w,b,k⟩:=r.get h2;have F:=r.length;have D:=jb;have f:EP X B G Q w s:=⟨a,H,I,k,q⟩;by_cases m:0≤i
 .have e:i.toNat=j:=by
   rw[seqIndex_of m o]at z;exact Option.some.inj z
  exact item_listR l.isList m (by lia) (by rw[e];simpa using b) f d
 .have e:(i+(n.toArray.size:Int)).toNat=j:=by
   rw[seqIndex_neg (by lia) g]at z;rw[List.size_toArray,<- F];exact Option.some.inj z
  exact subscriptTail_builtinR (x:=w) l.isList.typeIs slot_list_getitem.lookup
   (wpAny_getItem_list_neg (Q:=λr J=>r=w/\EP X B G Q r J) l.isList (by lia) (by rw[List.size_toArray]<;>lia) (by lia) (by rw[e];simpa using b) ⟨rfl,f⟩) d
theorem EN:AL X (Kh X.K):=by
 intro value l B s G H x y v u Q I o S h d;obtain⟨p,xs,i,a,rfl,rfl,m,b,q⟩:=h;cases o;obtain⟨t,rfl⟩:=S;obtain⟨g,r,n,C⟩:=I.tuple m;obtain⟨j,z,h2,F,K,P⟩:=sN b;obtain⟨w,k,e⟩:=r.get h2;have c:=r.length;have A:=jb;have f:EP X B G Q w s:=⟨a,H,I,e,q⟩;exact subscriptTail_builtinR (x:=w) n.typeIs j0.lookup
  (getItem_tuple (j:=j) (Q:=λr J=>r=w/\EP X B G Q r J) n (by lia) (by lia) (by rw[List.size_toArray,<- c];exact z) (by simpa using k) ⟨rfl,f⟩) d
theorem EQ:AL X Ki:=by
 intro value l B s G H x y v u Q I p d h r;obtain⟨a,i,c,rfl,rfl,o,b,q⟩:=h;obtain⟨t,rfl⟩:=p;obtain⟨S,rfl⟩:=d;obtain⟨j,z,h2,w,k,f⟩:=sN b;have m:a.cps.toList.length=a.length:=by simp[Str.length]
 rw[m]at z k f;have g:=jb;exact tail_any (typeIs_str s a t) slot_str_getitem.lookup (getItem_str (c:=c) (by have e:decide (i < -(2 ^ 63:Int))=false:=br (by lia);have n:decide (i ≥ 2 ^ 63)=false:=br (by lia);rw[e,n,Bool.or_false]) (by rw[z];simpa using h2) ⟨.str ⟨#[c]⟩,H,I.tok _,⟨_,rfl⟩,q⟩) r
theorem vb(i:LV)(n j:Nat)(u:Value):Obj.mapSeq (·.setIfInBounds j u) { cls:=.type "list",data:=.seq i.toArray n }={ cls:=.type "list",data:=.seq (i.set j u).toArray n }:=by simp[Obj.mapSeq]
theorem Inv.lst(I:Inv X B G H s)(h:H p=some (.lst xs)) :
  ∃(i:LV)(n:Nat),aK xs i/\s.heap.get? p=some { cls:=.type "list",data:=.seq i.toArray n }/\xs.length≤sizeLine:=by
 obtain⟨z,i,n,r,e⟩:=I.hok p _ h;exact⟨i,n,r,e,z⟩
theorem Inv.lstUpd{i:LV}(I:Inv X B G H s)(h:H p=some (.lst xs))
  (o:s.heap.get? p=some { cls:=.type "list",data:=.seq i.toArray n }) (a:f { cls:=.type "list",data:=.seq i.toArray n }={ cls:=.type "list",data:=.seq N.toArray n' }) (r:aK ys N) (z:ys.length≤sizeLine) (t:Nat) :
  Inv X B G (cg H p (.lst ys)) { s with heap:=s.heap.update p f,toks:=t }:=by
 have e:(s.heap.update p f).get? p=some { cls:=.type "list",data:=.seq N.toArray n' }:=by rw[qC f o (by rw[a]<;>rfl),a]
 refine I.write (x:=p) (e:=p) (by rw[h];trivial) (.inl rfl) (λb u k q=>(Heap.get?_update_other _ _ (Ne.symm k)).trans q) ⟨_,e⟩ ?_;exact⟨z,N,n',r,e⟩
def GY:V->V->V->Hp->(Hp->Prop)->Prop:=λo i v H Q=>∃p xs k j,o=.ref p/\i=.int k/\H p=some (.lst xs)/\xK xs.length k=some j/\Q (cg H p (.lst (xs.set j v)))
theorem yK:Iw X GY:=by
 intro B s G H o i v A P u Q I S y F h;obtain⟨p,xs,k,j,rfl,rfl,d,w,q⟩:=h;cases S;obtain⟨t,rfl⟩:=y;obtain⟨x,n,r,e,g⟩:=I.lst d;obtain⟨z,h2,c,m⟩:=wD w;have l:=r.length;have K:=jb;have f:Inv X B G (cg H p (.lst (xs.set j v))) { s with heap:=s.heap.update p (Obj.mapSeq (·.setIfInBounds j u)) }:=
  I.lstUpd d e (vb x n j u) (r.set F j) (by rw[eY];exact g) s.toks
 by_cases b:0≤k
 .have a:k.toNat=j:=by
   rw[seqIndex_of b m]at z;exact Option.some.inj z
  exact PySem.W.ki_setAt e b (by lia) (by rw[List.size_toArray,<- l];exact m) (by rw[a];exact⟨_,f,q⟩)
 .have a:(k+(x.toArray.size:Int)).toNat=j:=by
   rw[seqIndex_neg (by lia) c]at z;rw[List.size_toArray,<- l];exact Option.some.inj z
  exact PySem.W.ki_setBack e (by lia) (by rw[List.size_toArray,<- l];exact c) (by lia) (by rw[a];exact⟨_,f,q⟩)
theorem qU(I q:Option Int)(n:Nat):(sliceBounds I q none n).1=((HT.eH n 0 I:Nat):Int)/\(sliceBounds I q none n).2.1=((HT.eH n n q:Nat):Int)/\(sliceBounds I q none n).2.2=1:=by
 refine⟨?_,?_,rfl⟩
 .cases I with
  |none=>simp[sliceBounds,HT.eH]
  |some i=>
   simp only[sliceBounds,HT.eH,Option.getD_none,show(1:Int) > 0 by decide,iB];by_cases h:i < 0
   .simp only[h,iB]<;>lia
   .simp only[h,if_false]<;>lia
 .cases q with
  |none=>simp[sliceBounds,HT.eH]
  |some i=>
   simp only[sliceBounds,HT.eH,Option.getD_none,show(1:Int) > 0 by decide,iB];by_cases h:i < 0
   .simp only[h,iB]<;>lia
   .simp only[h,if_false]<;>lia
theorem oQ(i:LV)(I q:Option Int):slicePick i.toArray I q none=((i.drop (HT.eH i.length 0 I)).take (HT.eH i.length i.length q-HT.eH i.length 0 I)).toArray:=by obtain⟨z,h2,h⟩:=qU I q i.toArray.size;unfold slicePick;rw[z,h2,h];simp only[sliceRange_one,pick_run,List.size_toArray]<;>rfl
def Ke(K:FG):V->Option Int->Option Int->Hp->VK->Prop:=λx I q H Q=>∃a xs,x=.ref a/\hX K H a xs/\∀p,H p=none->Q (.ref p) (cg H p (.lst (uw xs I q)))
theorem Bc:Dd X (Ke X.K):=by intro B s G H x v w g I q d Q e c k p u h;obtain⟨a,xs,rfl,f,n⟩:=h;cases c;obtain⟨i,r,t,z⟩:=e.list f;have l:=r.length;refine⟨"list",_,slot_list_getitem.lookup,t.isList.typeIs,?_⟩;refine wpAny_getItem_list_slice t.isList k p u .none (by simp) ?_ (by rw[List.size_toArray]<;>lia);rw[oQ,<- l];refine⟨.ref s.heap.objs.size,_,e.laid (t':=s.toks) (o:=.lst (uw xs I q)) (λb m n=>Heap.get?_push_of_some _ n) (Nat.le_refl _) ?_,rfl,n _ (e.hok.fresh (Nat.le_refl _))⟩;exact⟨aM (ml xs I q) z,_,0,(r.drop (HT.eH xs.length 0 I)).take (HT.eH xs.length xs.length q-HT.eH xs.length 0 I),Heap.get?_push_size _ rfl⟩
theorem sK:eF X (.builtin "len") (λxs H Q=>∃p ys,xs=[.ref p]/\(hX X.K H p ys\/sO X.K H p ys)/\Q (.int ys.length) H):=by
 intro B s G H xs Y Q I r h;obtain⟨p,ys,rfl,x,q⟩:=h;obtain⟨u,rfl,n⟩:=vals1 r;cases n;have k:=jb;rcases x with x|x
 .obtain⟨i,e,a,z⟩:=I.list x;have l:=e.length;exact Calls.call_len_list a.isList (by simp only[List.size_toArray]<;>lia) ⟨.int ys.length,H,I.tok _,⟨s.toks+1,by rw[List.size_toArray,l]⟩,q⟩
 .obtain⟨i,e,a,z⟩:=I.tuple x;have l:=e.length;exact len_tuple a (by simp only[List.size_toArray]<;>lia) ⟨.int ys.length,H,I.tok _,⟨s.toks+1,by rw[List.size_toArray,l]⟩,q⟩
theorem sJ:eF X (.builtin "len") (λxs H Q=>∃z,xs=[.str z]/\z.length≤sizeLine/\Q (.int z.length) H):=by intro B s G H xs Y Q I r h;obtain⟨z,rfl,x,q⟩:=h;obtain⟨u,rfl,t,rfl⟩:=vals1 r;have n:=jb;exact len_str (by lia) ⟨.int z.length,H,I.tok _,⟨_,rfl⟩,q⟩
theorem eF.or(h:eF X f r)(h':eF X f N):eF X f (λxs H Q=>r xs H Q\/N xs H Q):=by
 intro B s G H xs Y Q I x q;rcases q with q|q
 .exact h B s G H xs Y Q I x q
 .exact h' B s G H xs Y Q I x q
theorem kX:eF X (.type "list") (λxs H Q=>∃p ys,xs=[.ref p]/\(hX X.K H p ys\/sO X.K H p ys)/\∀l,H l=none->Q (.ref l) (cg H l (.lst ys))):=by
 intro B s G H xs Y Q I r h;obtain⟨p,ys,rfl,k,q⟩:=h;obtain⟨u,rfl,w⟩:=vals1 r;cases w;have f:∀(i:LV),aK ys i->ys.length≤sizeLine->∀(h':Heap)(c:Nat),(∀b o',s.heap.get? b=some o'->h'.get? b=some o') ->
   h'.get? s.heap.objs.size=some { cls:=.type "list",dict:=none,data:=.seq i.toArray c,slots:=#[] }->EP X B G Q (.ref s.heap.objs.size) { s with heap:=h' }:=λi x z h' c m e=>
  ⟨.ref s.heap.objs.size,_,I.laid (t':=s.toks) m (Nat.le_refl _) (show cZ X.prog X.w _ h' _ (.lst ys) from ⟨z,i,c,x,e⟩),rfl,q _ (I.hok.fresh (Nat.le_refl _))⟩
 rcases k with k|k
 .obtain⟨i,x,d,z⟩:=I.list k;have a:=x.length;obtain⟨o,v,t,n,hd⟩:=d.isList;exact call_list_seq p (.inl rfl) v t hd (λh' c m e=>f i x z h' c m e) (by simp only[List.size_toArray]<;>lia)
 .obtain⟨i,x,d,z⟩:=I.tuple k;have a:=x.length;obtain⟨o,v,t,n,hd⟩:=d;exact call_list_seq p (.inr rfl) v t hd (λh' c m e=>f i x z h' c m e) (by simp only[List.size_toArray]<;>lia)
theorem jS:eF X (.type "tuple") (λxs H Q=>∃p ys,xs=[.ref p]/\((hX X.K H p ys/\∀l,H l=none->Q (.ref l) (cg H l (.tup ys)))\/(sO X.K H p ys/\Q (.ref p) H))):=by
 intro B s G H xs Y Q I r h;obtain⟨p,ys,rfl,h⟩:=h;obtain⟨u,rfl,t⟩:=vals1 r;cases t;rcases h with ⟨x,q⟩|⟨x,q⟩
 .obtain⟨i,n,a,z⟩:=I.list x;have f:=n.length;refine call_tuple_list a.isList (λh' m=>?_) (by simp only[List.size_toArray]<;>lia);have k:Inv X B G H { s with heap:=h' }:=I.kept (t':=s.toks) m;have c:Inv X B G (cg H h'.objs.size (.tup ys)) { s with heap:=h'.push { cls:=.type "tuple",data:=.seq i.toArray } }:=
   k.laid (t':=s.toks) (λb o e=>Heap.get?_push_of_some _ e) (Nat.le_refl _) (show cZ X.prog X.w _ _ _ (.tup ys) from ⟨z,i,n,lW.new _ _⟩)
  exact⟨.ref h'.objs.size,_,c,rfl,q _ (k.hok.fresh (Nat.le_refl _))⟩
 .obtain⟨i,n,a,z⟩:=I.tuple x;exact call_tuple_same a ⟨.ref p,H,I,rfl,q⟩
def Lb(K:FG)(T:String)(x:V)(H:Hp):Prop:=match x with
 | .str _=>T="str"
 | .int _=>T="int"
 | .ref p=>(T="list"/\∃xs,hX K H p xs)\/(T="tuple"/\∃o,K.lookup p=some o/\o.cls=.type "tuple"/\o.dict=none) \/
   (T="dict"/\((∃j,H p=some (.dK j))\/∃j,H p=some (.dT j)))\/(T="set"/\∃S n,H p=some (.set S n))
 |_=>False
theorem Dz(I:Inv X B G H s)(r:RelV x v)(ty:Lb X.K T x H) :
  s.TypeIs v T/\∀a,v=.ref a->∃b,s.heap.get? a=some b/\b.dict=none:=by
 cases x with
 |str z=>obtain⟨t,rfl⟩:=r;cases (show T="str" from ty);exact⟨typeIs_str s z t,λ_ e=>nomatch e⟩
 |int i=>obtain⟨t,rfl⟩:=r;cases (show T="int" from ty);exact⟨typeIs_int s i t,λ_ e=>nomatch e⟩
 |ref p=>
  cases r;rcases ty with ⟨rfl,xs,q⟩|⟨rfl,o,h,f,hd⟩|⟨rfl,h⟩|⟨rfl,S,n,h⟩
  .obtain⟨m,_,l,_⟩:=I.list q;refine⟨l.isList.typeIs,λa e=>?_⟩;cases e;obtain⟨o,n,e,c,hd,_⟩:=l;exact⟨o,e,hd⟩
  .refine⟨⟨o,I.kIn p o h,f⟩,λa e=>?_⟩;cases e;exact⟨o,I.kIn _ o h,hd⟩
  .have z:∃o,s.heap.get? p=some o/\o.ExactDict:=by
    rcases h with ⟨j,h⟩|⟨j,h⟩
    .obtain⟨_,_,_,_,o,_,_,e,ex,_⟩:=I.hok p _ h;exact⟨o,e,ex⟩
    .obtain⟨_,_,_,_,o,_,_,e,ex,_⟩:=I.hok p _ h;exact⟨o,e,ex⟩
   obtain⟨o,e,ex⟩:=z;refine⟨⟨o,e,ex.1⟩,λa k=>?_⟩;cases k;exact⟨o,e,ex.2.1⟩
  .obtain⟨o,_,_,_,e,ex,_⟩:=I.hok p _ h;refine⟨⟨o,e,ex.1⟩,λa k=>?_⟩;cases k;exact⟨o,e,ex.2.1⟩
 |_=>exact False.elim ty
noncomputable def L_(K:FG)(T:String)(r:V->List V->Hp->VK->Prop)(to:TE)(t:TA):TE:=λG H Q=>to G H λx U=>Lb K T x U/\t G U λxs H2=>r x xs H2 Q
variable{o e:Expr}{es:Ab}{to:TE}{t:TA}{name:Str}{apos cpos:Pos}{T id:String}{r:V->List V->Hp->VK->Prop}
theorem CH(u:PlainAttrs T)(slot:Slot T name id)(y:typeOf (.builtin id)=pure (.type "method_descriptor"))(q:MN X id r)(d:PE X o to)(m:PA X (e::es) t)
  (b:attributeBase o name X.env (eval o X.env)=eval o X.env:=by rfl)
  (f:((backTo cpos (starEach (e::es) X.env)).all (fun x=>!x.1) && (backToKw cpos (keywordEach [] X.env)).all (fun x=>x.1.isSome)
   && decide ((e::es).length+([]:List Keyword).length+(if ([]:List Keyword).isEmpty then 0 else 1) < 30))=true:=by rfl)
  (l:(apos.endLine == cpos.line)=true:=by rfl) (w:starEach (e::es) X.env=(false,eval e X.env)::starEach es X.env:=by rfl) (p:(backTo cpos (starEach es X.env)).any (·.1)=false:=by rfl) :
  PE X (.Call (.Attribute o name apos) (e::es) [] cpos) (L_ X.K T r to t):=by
 intro B s G H Q I h;refine wpAny_Call_method_late b f l rfl (cG (d B s G H _ I h) λv S a=>?_);obtain⟨x,U,n,k,ty,g⟩:=a;obtain⟨z,h2⟩:=Dz n k ty;refine⟨T,id,u,slot,y,z,h2,?_⟩;have A:=m cpos B S G U _ n g;rw[w]at A ⊢;refine Calls.callWith_builtin (by show(false ||(backTo cpos (starEach es X.env)).any (·.1))=false;rw[p]<;>rfl) (Calls.evalArgs_plain ?_);exact cG A λY F a=>by obtain⟨K,H2,c,j,i⟩:=a;exact q B F G H2 x K v Y Q c k j i
end
def LN(X:Cx)(id:String)(r:V->List V->Hp->VK->Prop):Prop:=
 ∀(B:PN)(s:Shared)(G:St)(H:Hp)(x:V)(xs:List V)(v:Value)(Y:LV)(Q:VK),Inv X B G H s->RelV x v->aK xs Y->r x xs H Q ->
  wpAny (model X.prog X.w) X.A (call (.builtin id) (v::Y)) (EP X B G Q) X.xe s
theorem aK.one:∀{x:V}{Y:LV},aK [x] Y->∃u,Y=[u]/\RelV x u
 |_,_,.cons r .nil=>⟨_,rfl,r⟩
theorem aK.rep(h:aK xs Y):∀k:Nat,aK (List.replicate k xs).flatten (List.replicate k Y).flatten
 |0=>.nil
 |k+1=>by rw[dw,dw,hG,hG];exact aK.append h (aK.rep h k)
theorem foldl_rep(i:LV):∀(k:Nat)(a:LV),
  List.foldl (λx s=>x++s) a.toArray (List.replicate k i.toArray)=(a++(List.replicate k i).flatten).toArray
 |0,a=>by simp
 |k+1,a=>by
  have e:a.toArray++i.toArray=(a++i).toArray:=by simp
  have h:(a++i)++(List.replicate k i).flatten=a++(List.replicate (k+1) i).flatten:=by rw[dw,hG,List.append_assoc]
  rw[<- h,<- foldl_rep i k (a++i),<- e,dw,gD]
section
variable{X:Cx}{B:PN}{G:St}{H:Hp}{s:Shared}{l b:Addr}{xs ys zs:List V}
theorem Inv.lset{i:LV}{t:Nat}(I:Inv X B G H s)(h:H l=some (.lst xs))
  (e:s.heap.get? l=some { cls:=.type "list",data:=.seq i.toArray n }) (a:f i.toArray=N.toArray) (v:aK ys N) (z:ys.length≤sizeLine) :
  Inv X B G (cg H l (.lst ys)) { s with heap:=s.heap.update l (Obj.mapSeq f),toks:=t }:=by
 have q:=PySem.IsL.update e f;rw[a]at q;refine I.write (x:=l) (e:=l) (by rw[h];exact trivial) (.inl rfl) (λc u b k=>(Heap.get?_update_other s.heap (Obj.mapSeq f) (Ne.symm b)).trans k) ⟨_,q⟩ ?_;exact⟨z,N,_,v,q⟩
theorem Inv.lnew{t:Nat}(I:Inv X B G H s)(h:aK ys N)(z:ys.length≤sizeLine) :
  Inv X B G (cg H s.heap.objs.size (.lst ys)) { s with heap:=s.heap.push { cls:=.type "list",data:=.seq N.toArray },toks:=t }:=
 I.laid (λ_ _ q=>Heap.get?_push_of_some _ q) (Nat.le_refl _) ⟨z,N,0,h,Heap.get?_push_size _ rfl⟩
theorem Inv.fresh(I:Inv X B G H s):H s.heap.objs.size=none:=I.hok.fresh (Nat.le_refl _)
theorem Inv.lstM(I:Inv X B G H s)(h:H l=some (.lst xs)):xs.length≤sizeLine/\∃(i:LV)(n:Nat),aK xs i/\xs.length=i.length/\s.heap.get? l=some { cls:=.type "list",data:=.seq i.toArray n }:=by obtain⟨z,i,n,r,e⟩:=I.hok l _ h;exact⟨z,i,n,r,r.length,e⟩
theorem tB(h:n≤sizeLine):Builtin.List.listTooLong n=false:=by unfold Builtin.List.listTooLong;exact br (by lia)
end
section
variable{X:Cx}
def Bm:V->List V->Hp->VK->Prop:=λx v H Q=>∃l xs y,x=.ref l/\v=[y]/\H l=some (.lst xs)/\xs.length < sizeLine/\Q .non (cg H l (.lst (xs++[y])))
theorem pK:LN X "list.append" Bm:=by intro B s G H x t v Y Q I b f h;obtain⟨l,xs,y,rfl,rfl,a,m,q⟩:=h;cases b;obtain⟨u,rfl,k⟩:=f.one;obtain⟨z,i,n,r,c,e⟩:=I.lstM a;refine call_meets F.slot_list_append ⟨_,e,rfl⟩ F.entry_list_append (F.args_list_append_2 _ _) (PySem.list_append l i.toArray n u (by rw[List.size_toArray];lia)) ⟨e,?_⟩;refine⟨.non,_,I.lset (N:=i++[u]) a e (by simp) (r.append (.cons k .nil)) ?_,rfl,q⟩;rw[cJ,List.length_singleton];lia
def Bl:V->List V->Hp->VK->Prop:=λx v H Q=>∃l b xs zs,x=.ref l/\v=[.ref b]/\H l=some (.lst xs)/\H b=some (.lst zs)/\xs.length+zs.length≤sizeLine/\Q .non (cg H l (.lst (xs++zs)))
theorem xB:LN X "list.extend" Bl:=by
 intro B s G H x K v Y Q I j g h;obtain⟨l,b,xs,zs,rfl,rfl,k,c,S,q⟩:=h;cases j;obtain⟨u,rfl,w⟩:=g.one;cases w;obtain⟨z,t,n,r,y,e⟩:=I.lstM k;obtain⟨P,i,p,d,m,f⟩:=I.lstM c;have a:t.toArray.size+i.toArray.size≤sizeLine:=by rw[List.size_toArray,List.size_toArray];lia
 have o:¬(!t.toArray.isEmpty && Builtin.List.listTooLong (t.toArray.size+i.toArray.size))=true:=by rw[tB a,Bool.and_false];exact bO
 refine call_meets F.slot_list_extend ⟨_,e,rfl⟩ F.entry_list_extend (F.args_list_extend_2 _ _)
  (AutoSeq1.list_extend_list_list_0 l t.toArray n b i.toArray p o (by rw[List.size_toArray];lia) (by lia)) ⟨e,f,?_⟩
 refine⟨.non,_,I.lset (N:=t++i) k e (by simp) (r.append d) ?_,rfl,q⟩;rw[cJ];lia
def Kk:R2:=λx y H Q=>∃l b xs zs,x=.ref l/\y=.ref b/\H l=some (.lst xs)/\H b=some (.lst zs)/\xs.length+zs.length≤sizeLine/\∀p,H p=none->Q (.ref p) (cg H p (.lst (xs++zs)))
theorem Ee:ip X (binaryOp .Add) Kk:=by
 intro B s G H x y v u Q I d w h;obtain⟨l,b,xs,zs,rfl,rfl,c,f,j,q⟩:=h;cases d;cases w;obtain⟨z,t,n,r,g,e⟩:=I.lstM c;obtain⟨S,i,o,p,m,a⟩:=I.lstM f;refine PySem.P.add_list e a ?_ (by rw[List.size_toArray,List.size_toArray];lia);have k:t.toArray++i.toArray=(t++i).toArray:=by simp
 rw[k];exact⟨.ref _,_,I.lnew (t:=s.toks) (r.append p) (by rw[cJ];lia),rfl,q _ I.fresh⟩
def Kf:R2:=λx y H Q=>∃l k xs,x=.ref l/\y=.int k/\H l=some (.lst xs)/\-(2 ^ 63)≤k/\k < 2 ^ 63/\xs.length * k.toNat≤sizeLine /\
 ∀p,H p=none->Q (.ref p) (cg H p (.lst (List.replicate k.toNat xs).flatten))
theorem BV(xs:List α)(k:Nat):(List.replicate k xs).flatten.length=k * xs.length:=by
 induction k with
 |zero=>simp
 |succ k i=>rw[dw,hG,cJ,i,Nat.succ_mul,Nat.add_comm]
theorem Ea:ip X (binaryOp .Mult) Kf:=by
 intro B s G H x y v u Q I A C h;obtain⟨l,k,xs,rfl,rfl,K,z,h2,j,q⟩:=h;cases A;obtain⟨t,rfl⟩:=C;obtain⟨f,i,n,r,P,e⟩:=I.lstM K;have p:i.toArray.size * k.toNat≤sizeLine:=by rw[List.size_toArray,<- P];exact j
 have c:¬i.toArray.size * k.toNat > (2 ^ 63-1) / 8:=by
  have:(sizeLine:Nat)≤(2 ^ 63-1) / 8:=by decide
  lia
 have b:¬(!Builtin.List.listFitsIndex k)=true:=by rw[fitsIndex_both z h2];exact bO
 have o:¬Builtin.List.listTooLong (i.toArray.size * k.toNat)=true:=by rw[tB p];exact bO
 have w:List.foldl (λd g=>d++g) #[] (List.replicate (if i.toArray.isEmpty=true then 0 else k.toNat) i.toArray)=(List.replicate k.toNat i).flatten.toArray:=by
  have S:∀m:Nat,List.foldl (λd g=>d++g) #[] (List.replicate m i.toArray)=(List.replicate m i).flatten.toArray:=λm=>by have:=foldl_rep i m [];rw[fX]at this;exact this
  rw[S];cases i with
  |nil=>simp
  |cons a D=>rw[if_neg (by simp)]
 refine wpAny_binaryOp_repeat_ref (T:="list") (U:="int") (by decide) ⟨_,e,rfl⟩ (λJ=>typeIs_int J k t) noFill_list_mul F.fills_int_mul F.slot_int_rmul repeat_list F.slot_int_index.lookup
  (call_meets F.slot_int_rmul (typeIs_int s k t) F.entry_int_rmul (F.args_int_rmul_2 _ _) (int___rmul___int_list k t l i.toArray n)
   ⟨e,rfl,⟨_,e,rfl⟩,call_meets F.slot_list_mul ⟨_,e,rfl⟩ F.entry_list_mul (F.args_list_mul_2 _ _) (AutoListH.list___mul___list_int_3 l i.toArray n k t b c o) ⟨e,?_⟩⟩)
 rw[w];exact⟨.ref _,_,I.lnew (t:=s.toks) (r.rep k.toNat) (by rw[BV,mM];exact j),rfl,q _ I.fresh⟩
end
section
variable{κ:Type}[DecidableEq κ]
noncomputable def fR(j:List (κ×V))(k:κ):Option V:=(j.find? λv=>decide (v.1=k)).map (·.2)
noncomputable def putK(j:List (κ×V))(k:κ)(v:V):List (κ×V):=
 if (j.any λh=>decide (h.1=k))=true then j.map (λh=>if h.1=k then (h.1,v) else h) else j++[(k,v)]
noncomputable def LI(j:List (κ×V))(k:κ):List (κ×V):=j.filter λv=>decide (v.1≠k)
theorem gF{p:κ×V}{r:List (κ×V)}{k:κ}(e:p.1=k):fR (p::r) k=some p.2:=by simp[fR,i9,e]
theorem fQ{p:κ×V}{r:List (κ×V)}{k:κ}(e:¬p.1=k):fR (p::r) k=fR r k:=by simp[fR,i9,e]
theorem sY(k:κ):∀j:List (κ×V),(j.any λv=>decide (v.1=k))=(fR j k).isSome
 | []=>rfl
 |p::r=>by
  rw[gC];by_cases e:p.1=k
  .simp only[gF e,ir e,Bool.true_or,Option.isSome_some]
  .rw [fQ e,br e,Bool.false_or];exact sY k r
theorem jc(j:List (κ×V))(k:κ)(v:V):(putK j k v).length≤j.length+1:=by
 unfold putK;split
 .rw [a9];lia
 .rw [cJ,bc,List.length_nil];lia
theorem i4.isSome_eq(r:i4 o u):o.isSome=u.isSome:=by
 cases o with
 |none=>cases u with
  |none=>rfl
  |some _=>exact(show False from r).elim
 |some _=>cases u with
  |none=>exact(show False from r).elim
  |some _=>rfl
theorem i4.getD(r:i4 o u)(h:RelV d N):RelV (o.getD d) (u.getD N):=by
 cases o with
 |none=>cases u with
  |none=>exact h
  |some _=>exact(show False from r).elim
 |some _=>cases u with
  |none=>exact(show False from r).elim
  |some _=>exact r
theorem KV.val{j:List (κ×V)}{v:List (κ×Value)}(r:KV j v)(k:κ):i4 (fR j k) (valueAt v k):=by
 unfold KV at r;induction r with
 |nil=>exact True.intro
 | @cons p q ps qs h t i=>
  obtain⟨z,h2⟩:=h;by_cases e:p.1=k
  .have a:q.1=k:=z.symm.trans e;have b:valueAt (q::qs) k=some q.2:=by simp[valueAt,i9,a]
   rw[gF e,b];exact h2
  .have a:¬q.1=k:=λx=>e (z.trans x);have b:valueAt (q::qs) k=valueAt qs k:=by simp[valueAt,i9,a]
   rw[fQ e,b];exact i
theorem KV.any(r:KV j N)(k:κ):(j.any λv=>decide (v.1=k))=N.any λv=>decide (v.1=k):=by
 unfold KV at r;induction r with
 |nil=>rfl
 |cons h t i=>rw[gC,gC,i,h.1]
theorem KV.repl(r:KV j N)(k:κ)(a:RelV y u) :
  KV (j.map λv=>if v.1=k then (v.1,y) else v) (N.map λv=>if v.1=k then (v.1,u) else v):=by
 unfold KV at r ⊢;induction r with
 |nil=>exact .nil
 | @cons p q ps qs h t i=>
  rw[List.map_cons,List.map_cons];refine .cons ?_ i;obtain⟨z,h2⟩:=h;by_cases e:p.1=k
  .rw [if_pos e,if_pos (z.symm.trans e)];exact⟨z,a⟩
  .rw [if_neg e,if_neg (λx=>e (z.trans x))];exact⟨z,h2⟩
theorem KV.put(r:KV j N)(k:κ)(h:RelV y u):KV (putK j k y) (stored N k u):=by
 unfold putK stored;rw[r.any k];by_cases e:(N.any λv=>decide (v.1=k))=true
 .rw [if_pos e,if_pos e];exact r.repl k h
 .rw [if_neg e,if_neg e];exact Paired.snoc r ⟨rfl,h⟩
theorem KV.length(r:KV j N):j.length=N.length:=Paired.length r
end
variable{w:World}{u:Value}
theorem kL(r:RelV (kV k) u):(bJ P w).is k u=true:=by
 cases k with
 |inl i=>obtain⟨t,e⟩:=(show ∃t,u=Value.int i t from r);subst e;exact tK P w i t
 |inr x=>obtain⟨t,e⟩:=(show ∃t,u=Value.str x t from r);subst e;exact tJ P w x t
theorem pO:∀{ks:List bB}{Y:LV},aK (ks.map kV) Y->ItemsAre (bJ P w) ks Y
 | [],_,r=>by rw[gB]at r;cases r;exact .nil
 |k::ks,_,r=>by
  rw[List.map_cons]at r;cases r with
  |cons h t=>exact .cons (kL h) (pO t)
abbrev KT(H:Hp):List (List bB×V)->List (List bB×Addr×Value)->Prop:=Paired λp q=>p.1=q.1/\H q.2.1=some (.tup (p.1.map kV))/\RelV p.2 q.2.2
theorem KT.val{H:Hp}{j:List (List bB×V)}{xs:List (List bB×Addr×Value)}(r:KT H j xs)(k:List bB):i4 (fR j k) ((atKey xs k).map (·.2)):=by
 induction r with
 |nil=>exact True.intro
 | @cons p q ps qs h t i=>
  obtain⟨z,_,h2⟩:=h;by_cases e:p.1=k
  .have a:q.1=k:=z.symm.trans e;have b:atKey (q::qs) k=some q.2:=by simp[atKey,i9,a]
   rw[gF e,b];exact h2
  .have a:¬q.1=k:=λx=>e (z.trans x);have b:atKey (q::qs) k=atKey qs k:=by simp[atKey,i9,a]
   rw[fQ e,b];exact i
variable{H:Hp}{j:List (List bB×V)}{xs:List (List bB×Addr×Value)}{y:V}
theorem KT.repl(r:KT H j xs)(k:List bB)(s:RelV y u) :
  KT H (j.map λv=>if v.1=k then (v.1,y) else v) (xs.map (putAt k u)):=by
 induction r with
 |nil=>exact .nil
 | @cons p q ps qs h t i=>
  rw[List.map_cons,List.map_cons];refine .cons ?_ i;obtain⟨z,h2,a⟩:=h;unfold putAt;by_cases e:p.1=k
  .rw [if_pos e,if_pos (z.symm.trans e)];exact⟨z,h2,s⟩
  .rw [if_neg e,if_neg (λx=>e (z.trans x))];exact⟨z,h2,a⟩
theorem KT.put(r:KT H j xs)(k:List bB)(x:H b=some (.tup (k.map kV)))(h:RelV y u) :
  KT H (putK j k y) (storedH xs k b u):=by
 have e:(j.any λv=>decide (v.1=k))=(atKey xs k).isSome:=by rw[sY,(r.val k).isSome_eq,qB]
 unfold putK storedH;rw[e];by_cases q:(atKey xs k).isSome=true
 .rw [if_pos q,if_pos q];exact r.repl k h
 .rw [if_neg q,if_neg q];exact Paired.snoc r ⟨rfl,x,h⟩
theorem KT.keeps(r:KT H j xs)(h:∀b ys,H b=some (.tup ys)->H' b=some (.tup ys)):KT H' j xs:=
 Paired.mapP r λ_ _ z=>⟨z.1,h _ _ z.2.1,z.2.2⟩
section
variable{P:Program}{w:World}{H:Hp}{h:Heap}{a:Addr}
theorem CD{u:HO}(ok:jJ P w H h)(e:Rd H a u):cZ P w H h a u:=e.ok ok
theorem oq{j:List (bB×V)}(ok:jJ P w H h)(e:Rd H a (.dK j)):j.length≤sizeLine/\(a == sysModules)=false/\∃v,KV j v/\h.DictOf (bJ P w) a v:=
 show cZ P w H h a (.dK j) from CD ok e
theorem wO{j:List (bB×V)}(ok:jJ P w H h)(e:H a=some (.dK j)):j.length≤sizeLine/\(a == sysModules)=false/\∃v,KV j v/\h.DictOf (bJ P w) a v:=oq ok (.inl e)
theorem kc(ok:jJ P w H h)(e:H a=some (.tup (ks.map kV))):(tupleKind (bJ P w)).is h ks a:=by obtain⟨_,i,r,o,z,⟨h2,n,x⟩,_⟩:=(show cZ P w H h a (.tup (ks.map kV)) from ok a _ e);exact⟨o,i.toArray,n,z,h2,x,by simpa using pO r⟩
theorem oo(ok:jJ P w H h)(e:Rd H a (.dT j)):j.length≤sizeLine/\(a == sysModules)=false /\
  ∃xs,KT H j xs/\h.DictOfH (tupleKind (bJ P w)) a xs:=by
 obtain⟨s,y,xs,r,o,es,f,z,h2,b,c,v⟩:=(show cZ P w H h a (.dT j) from CD ok e);refine⟨s,y,xs,r,o,es,f,z,h2,b,c,λx n=>?_,v⟩;have all:∀{l:List (List bB×V)}{m:List (List bB×Addr×Value)},KT H l m->∀x ∈ m,(tupleKind (bJ P w)).is h x.1 x.2.1:=by
  intro l m q;induction q with
  |nil=>intro x n;exact nomatch n
  | @cons p q ps qs k t i=>
   intro x n;rcases bq.mp n with e|n
   .subst e;exact kc ok (by rw[<- k.1];exact k.2.1)
   .exact i x n
 exact all r x n
theorem HX(ok:jJ P w H h)(e:H a=some (.dT j)):j.length≤sizeLine/\(a == sysModules)=false /\
  ∃xs,KT H j xs/\h.DictOfH (tupleKind (bJ P w)) a xs:=oo ok (.inl e)
end
def hZ(H:Hp)(a:Addr)(y:V)(r:Option V):Prop:=
 (∃j k,Rd H a (.dK j)/\y=kV k/\r=fR j k)\/∃j k b,Rd H a (.dT j)/\y=.ref b/\H b=some (.tup (k.map kV))/\r=fR j k
def uL(H:Hp)(a:Addr)(y v:V)(H':Hp):Prop:=
 (∃j k,H a=some (.dK j)/\y=kV k/\j.length < sizeLine/\H'=cg H a (.dK (putK j k v))) \/
 ∃j k b,H a=some (.dT j)/\y=.ref b/\H b=some (.tup (k.map kV))/\j.length < sizeLine/\H'=cg H a (.dT (putK j k v))
theorem hZ.k{H:Hp}{a:Addr}{j:List (bB×V)}{k:bB}(e:H a=some (.dK j)):hZ H a (kV k) (fR j k):=.inl ⟨j,k,.inl e,rfl,rfl⟩
theorem hZ.t{H:Hp}{a b:Addr}{j:List (List bB×V)}{k:List bB}(e:H a=some (.dT j))(h:H b=some (.tup (k.map kV))):hZ H a (.ref b) (fR j k):=.inr ⟨j,k,b,.inl e,rfl,h,rfl⟩
theorem uL.k{H:Hp}{a:Addr}{j:List (bB×V)}{k:bB}{v:V}(e:H a=some (.dK j))(h:j.length < sizeLine):uL H a (kV k) v (cg H a (.dK (putK j k v))):=.inl ⟨j,k,e,rfl,h,rfl⟩
theorem uL.t{H:Hp}{a b:Addr}{j:List (List bB×V)}{k:List bB}{v:V}(e:H a=some (.dT j))(h:H b=some (.tup (k.map kV)))(l:j.length < sizeLine) :
  uL H a (.ref b) v (cg H a (.dT (putK j k v))):=.inr ⟨j,k,b,e,rfl,h,l,rfl⟩
section
variable{X:Cx}{B:PN}{G:St}{H:Hp}{s:Shared}{a:Addr}{y v:V}{u r:Value}{o:Option V}{A:Around}{E:VP}
theorem Inv.big(I:Inv X B G H s):sysModules < s.heap.objs.size:=by have h:mainGlobals < s.heap.objs.size:=(I.mod.glob.keeps I.bk).lt;exact k_ (by decide) h
theorem pU(q:A.units+1 < cLine)(I:Inv X B G H s)(g:hZ H a y (some v))(c:RelV y u)(h:∀x J,Inv X B G H J->RelV v x->Q x J) :
  wpAny (model X.prog X.w) A (getItem (.ref a) u) Q E s:=by
 rcases g with ⟨j,k,e,n,l⟩|⟨j,k,b,e,n,m,l⟩
 .subst n;obtain⟨z,hd,i,r,d⟩:=oq I.hok e;obtain⟨x,hw,w⟩:=i4.some_of (v:=v) (o:=valueAt i k) (by rw[l];exact r.val k);exact wpAny_getItem_of (kL c) d.mapOf hw (h x _ (I.tok _) w)
 .subst n;cases (show u=Value.ref b from c);obtain⟨z,hd,xs,r,d⟩:=oo I.hok e;obtain⟨x,hw,w⟩:=i4.some_of (v:=v) (o:=(atKey xs k).map (·.2)) (by rw[l];exact r.val k);obtain⟨p,t,f⟩:=j_.mp hw;refine wpAny_getItem_heap (lf q) (kc I.hok m) d t ?_;rw[f];exact h x _ (I.tok _) w
theorem KS(c:A.units+1 < cLine)(I:Inv X B G H s)(g:hZ H a y o)(n:RelV y u)(h:∀J,Inv X B G H J->Q (.bool o.isSome) J) :
  wpAny (model X.prog X.w) A (compareOp .In u (.ref a)) Q E s:=by
 rcases g with ⟨j,k,e,x,l⟩|⟨j,k,b,e,x,f,l⟩
 .subst x;obtain⟨z,hd,v,r,d⟩:=oq I.hok e;refine wpAny_in_of (kL n) hd d.mapOf ?_;rw[<- (r.val k).isSome_eq,<- l];exact h _ (I.tok _)
 .subst x;cases (show u=Value.ref b from n);obtain⟨z,hd,xs,r,d⟩:=oo I.hok e;refine wpAny_in_heap (lf c) (kc I.hok f) hd d ?_;have q:=(r.val k).isSome_eq;rw[qB]at q;rw[<- q,<- l];exact h _ (I.tok _)
theorem Cb(c:A.units+1 < cLine)(I:Inv X B G H s)(g:hZ H a y o)(n:RelV y u)(h:∀J,Inv X B G H J->Q (.bool (!o.isSome)) J) :
  wpAny (model X.prog X.w) A (compareOp .NotIn u (.ref a)) Q E s:=by
 rcases g with ⟨j,k,e,x,l⟩|⟨j,k,b,e,x,f,l⟩
 .subst x;obtain⟨z,hd,v,r,d⟩:=oq I.hok e;refine wpAny_notIn_of (kL n) hd d.mapOf ?_;rw[<- (r.val k).isSome_eq,<- l];exact h _ (I.tok _)
 .subst x;cases (show u=Value.ref b from n);obtain⟨z,hd,xs,r,d⟩:=oo I.hok e;refine wpAny_notIn_heap (lf c) (kc I.hok f) hd d ?_;have q:=(r.val k).isSome_eq;rw[qB]at q;rw[<- q,<- l];exact h _ (I.tok _)
theorem se{t:Nat}(I:Inv X B G H s)(m:Iz (H a))(f:Heap.SameBut a s.heap h')(k:∃q,h'.get? a=some q)(n:cZ X.prog X.w (cg H a N) h' a N) :
  Inv X B G (cg H a N) { s with heap:=h',toks:=t }:=
 I.write (x:=a) (e:=a) m (.inl rfl) (λb q h z=>(f.2 b h).trans z) k n
theorem Ao{P:Program}{w:World}{H':Hp}{h':Heap}{j:List (bB×V)}{v:List (bB×Value)}(z:j.length≤sizeLine)(hd:(a == sysModules)=false)(r:KV j v)(d:h'.DictOf (bJ P w) a v) :
  cZ P w H' h' a (.dK j):=⟨z,hd,v,r,d⟩
theorem xZ{H':Hp}{Q:Unit->Shared->Prop}(N:A.units+1 < cLine)(I:Inv X B G H s)(g:uL H a y v H')(K:RelV y u)(F:RelV v r)(h:∀J,Inv X B G H' J->Q () J) :
  wpAny (model X.prog X.w) A (setItem (.ref a) u r) Q E s:=by
 rcases g with ⟨j,k,e,t,l,m⟩|⟨j,k,b,e,t,o,l,m⟩
 .subst t m;obtain⟨z,hd,O,x,f⟩:=wO I.hok e;have i:O.length≤sizeLine:=by rw[<- x.length];exact z
  have p:(putK j k v).length≤sizeLine:=by have:=jc j k v;lia
  refine wpAny_setItem_pairs (hsz:=i) (kL K) f λh' d w=>h _ ?_;have M:∃q,h'.get? a=some q:=let ⟨q,_,_,n,_⟩:=d;⟨q,n⟩
  exact se I (by rw[e];exact True.intro) w M (Ao p hd (x.put k F) d)
 .subst t m;cases (show u=Value.ref b from K);obtain⟨z,hd,xs,x,f⟩:=HX I.hok e;have i:xs.length≤sizeLine:=by rw[<- Paired.length x];exact z
  have p:(putK j k v).length≤sizeLine:=by have:=jc j k v;lia
  refine wpAny_setItem_heap (hsz:=i) (lf N) (kc I.hok o) f λh' d w=>h _ ?_;obtain⟨q,es,P,n,h2,C,D,_,L⟩:=d;refine se I (by rw[e];exact True.intro) w ⟨q,n⟩ ⟨p,hd,_,(x.put k o F).keeps λc ys S=>?_,q,es,P,n,h2,C,D,L⟩;rw[av (Hm S e (λz=>nomatch z))];exact S
end
noncomputable def GX(td ty tv:TE):TS:=λD G H=>tv G H λv U=>td G U λx H2=>ty G H2 λy e=>∃a h,x=.ref a/\uL e a y v h/\D.nx G h
section
variable{X:Cx}{o i e value:Expr}{O pos' tpos:Pos}{td ty tv:TE}
theorem wn(t:X.A.units+1 < cLine)(c:PE X o td)(q:PE X i ty)(p:PE X value tv)(m:swapsWith value (some (.Subscript o i pos')) O.line X.env=pure false) :
  PS X (.Assign [.Subscript o i pos'] value O) (GX td ty tv):=by
 intro B s G H D I h;refine wpAny_Assign_Subscript (cG (p B s G H _ I h) λr K ⟨v,U,n,l,d⟩=>cG (c B K G U _ n d) λu P ⟨x,H2,k,S,w⟩=>cG (q B P G H2 _ k w) λC E z=>?_) m;obtain⟨y,A,f,F,a,e,ex,g,j⟩:=z;subst ex;obtain rfl:u=Value.ref a:=S;exact xZ t f g F l λJ b=>⟨G,e,b,j⟩
end
theorem Ap(h:Heap)(b:sysModules < h.objs.size):cZ P w H (h.push { cls:=.type "dict",data:=.dict #[] }) h.objs.size (.dK []):=
 ⟨Nat.zero_le _,j9.mpr (Ne.symm (b0 b)),[],.nil,Heap.DictOf.new h⟩
theorem An(h:Heap)(b:sysModules < h.objs.size):cZ P w H (h.push { cls:=.type "dict",data:=.dict #[] }) h.objs.size (.dT []):=
 ⟨Nat.zero_le _,j9.mpr (Ne.symm (b0 b)),[],.nil,_,#[],0,Heap.get?_push_size _ rfl,⟨rfl,rfl,rfl⟩,rfl,rfl,List.nodup_nil⟩
def DH:TE:=λ_ H Q=>∀p,H p=none->Q (.ref p) (cg H p (.dK []))
def DG:TE:=λ_ H Q=>∀p,H p=none->Q (.ref p) (cg H p (.dT []))
section
variable{X:Cx}{O:Pos}
theorem zh:PE X (.Dict [] [] O) DH:=λB s G H Q I h=>
 wpAny_Dict_empty ⟨.ref s.heap.objs.size,_,I.laid (a:=s.heap.objs.size) (o:=.dK []) (t':=s.toks) (λ_ _ q=>Heap.get?_push_of_some _ q) (Nat.le_refl _) (Ap s.heap I.big),rfl,h _ (I.hok.fresh (Nat.le_refl _))⟩
theorem zg:PE X (.Dict [] [] O) DG:=λB s G H Q I h=>
 wpAny_Dict_empty ⟨.ref s.heap.objs.size,_,I.laid (a:=s.heap.objs.size) (o:=.dT []) (t':=s.toks) (λ_ _ q=>Heap.get?_push_of_some _ q) (Nat.le_refl _) (An s.heap I.big),rfl,h _ (I.hok.fresh (Nat.le_refl _))⟩
end
abbrev VV:List (V×V)->List (Value×Value)->Prop:=Paired λp q=>RelV p.1 q.1/\RelV p.2 q.2
structure M1(X:Cx)(o:Expr)(m:Str)(apos:Pos)(e:Expr)(cpos:Pos):Prop where
 base:attributeBase o m X.env (eval o X.env)=eval o X.env
 few:((backTo cpos (starEach [e] X.env)).all (fun x=>!x.1) && (backToKw cpos (keywordEach [] X.env)).all (fun x=>x.1.isSome)
  && decide (([e]:Ab).length+([]:List Keyword).length+(if ([]:List Keyword).isEmpty then 0 else 1) < 30))=true
 line:(apos.endLine == cpos.line)=true
 trees:backTo cpos (starEach [e] X.env)=[(false,eval e X.env)]
structure M2(X:Cx)(o:Expr)(m:Str)(apos:Pos)(e f:Expr)(cpos:Pos):Prop where
 base:attributeBase o m X.env (eval o X.env)=eval o X.env
 few:((backTo cpos (starEach [e,f] X.env)).all (fun x=>!x.1) && (backToKw cpos (keywordEach [] X.env)).all (fun x=>x.1.isSome)
  && decide (([e,f]:Ab).length+([]:List Keyword).length+(if ([]:List Keyword).isEmpty then 0 else 1) < 30))=true
 line:(apos.endLine == cpos.line)=true
 trees:backTo cpos (starEach [e,f] X.env)=[(false,eval e X.env),(false,eval f X.env)]
def K8(H:Hp)(a:Addr):Prop:=(∃j,Rd H a (.dK j))\/∃j,Rd H a (.dT j)
variable{B:PN}{G:St}{s:Shared}
theorem vk(I:Inv X B G H s)(d:K8 H a) :
  s.TypeIs (.ref a) "dict"/\(∀b,Value.ref a=.ref b->∃o,s.heap.get? b=some o/\o.dict=none)/\(a == sysModules)=false:=by
 rcases d with ⟨j,e⟩|⟨j,e⟩
 .obtain⟨_,hd,v,_,h⟩:=oq I.hok e;refine⟨h.typeIs,λb q=>?_,hd⟩;cases q;obtain⟨o,_,_,z,h2,_⟩:=h;exact⟨o,z,h2.2.1⟩
 .obtain⟨_,hd,xs,_,h⟩:=oo I.hok e;refine⟨h.typeIs,λb q=>?_,hd⟩;cases q;obtain⟨o,_,_,z,h2,_⟩:=h;exact⟨o,z,h2.2.1⟩
section
variable{X:Cx}{B:PN}{G:St}{H:Hp}{s:Shared}{a:Addr}{y d:V}{u r:Value}{o:Option V}{A:Around}{E:VP}
theorem Fa(c:A.units+1 < cLine)(I:Inv X B G H s)(g:hZ H a y o)(n:RelV y u)(h:∀w J,Inv X B G H J->RelV (o.getD .non) w->Q w J) :
  wpAny (model X.prog X.w) A (call (.builtin "dict.get") [.ref a,u]) Q E s:=by
 rcases g with ⟨j,k,e,x,l⟩|⟨j,k,b,e,x,f,l⟩
 .subst x;obtain⟨z,hd,v,r,d⟩:=oq I.hok e;refine ky ll d.typeIs qk (PySem.F.args_dict_get_2 _ _) (meets_dict_get (bJ X.prog X.w) a (kL n) hd) ⟨_,d.mapOf,h _ _ (I.tok _) ?_⟩;rw[l];exact(r.val k).getD rfl
 .subst x;cases (show u=Value.ref b from n);obtain⟨z,hd,xs,r,d⟩:=oo I.hok e;refine ky ll d.typeIs qk (PySem.F.args_dict_get_2 _ _) (meetsH_dict_get (tupleKind (bJ X.prog X.w)) a b hd) ⟨lf c,k,xs,kc I.hok f,d,h _ _ (I.tok _) ?_⟩;rw[l];exact(r.val k).getD rfl
theorem E_(p:A.units+1 < cLine)(I:Inv X B G H s)(g:hZ H a y o)(m:RelV y u)(c:RelV d r)(h:∀w J,Inv X B G H J->RelV (o.getD d) w->Q w J) :
  wpAny (model X.prog X.w) A (call (.builtin "dict.get") [.ref a,u,r]) Q E s:=by
 rcases g with ⟨j,k,e,f,l⟩|⟨j,k,b,e,f,t,l⟩
 .subst f;obtain⟨z,hd,v,x,n⟩:=oq I.hok e;refine ky ll n.typeIs qk (PySem.F.args_dict_get_3 _ _ _) (meets_dict_get_default (bJ X.prog X.w) a (kL m) hd r) ⟨_,n.mapOf,h _ _ (I.tok _) ?_⟩;rw[l];exact(x.val k).getD c
 .subst f;cases (show u=Value.ref b from m);obtain⟨z,hd,xs,x,n⟩:=oo I.hok e;refine ky ll n.typeIs qk (PySem.F.args_dict_get_3 _ _ _) (meetsH_dict_get_default (tupleKind (bJ X.prog X.w)) a b hd r) ⟨lf p,k,xs,kc I.hok t,n,h _ _ (I.tok _) ?_⟩;rw[l];exact(x.val k).getD c
end
noncomputable def DJ(td ty:TE):TE:=λG H Q=>td G H λx U=>∃a,x=.ref a/\K8 U a/\ty G U λy H2=>∃o,hZ H2 a y o/\Q (o.getD .non) H2
noncomputable def DI(td ty tx:TE):TE:=λG H Q=>td G H λx U=>∃a,x=.ref a/\K8 U a/\ty G U λy H2=>tx G H2 λz h=>∃o,hZ h a y o/\Q (o.getD z) h
section
variable{X:Cx}{o e f:Expr}{apos cpos:Pos}{td ty tx:TE}
theorem zj(t:X.A.units+1 < cLine)(c:PE X o td)(b:PE X e ty)(m:M1 X o "get" apos e cpos):PE X (.Call (.Attribute o "get" apos) [e] [] cpos) (DJ td ty):=by intro B s G H Q I h;refine wpAny_Call_method m.base m.few m.line uR ll PySem.F.type_dict_get (cG (c B s G H _ I h) λu i z=>?_);obtain⟨x,U,n,v,a,ex,d,q⟩:=z;subst ex;obtain rfl:u=Value.ref a:=v;obtain⟨j,l,_⟩:=vk n d;refine⟨j,l,?_⟩;rw[m.trees];refine Calls.callWith_builtin rfl (Calls.evalArgs_plain (Calls.spliced_cons (cG (b B i G U _ n q) λS K ⟨y,H2,k,w,F,g,p⟩=>j4 ?_)));exact Fa t k g w λA P f r=>⟨_,H2,f,r,p⟩
theorem zi(w:X.A.units+1 < cLine)(v:PE X o td)(p:PE X e ty)(q:PE X f tx)(m:M2 X o "get" apos e f cpos):PE X (.Call (.Attribute o "get" apos) [e,f] [] cpos) (DI td ty tx):=by
 intro B s G H Q I h;refine wpAny_Call_method m.base m.few m.line uR ll PySem.F.type_dict_get (cG (v B s G H _ I h) fun u A i=>?_);obtain⟨x,U,n,F,a,ex,d,j⟩:=i;subst ex;obtain rfl:u=Value.ref a:=F;obtain⟨D,E,_⟩:=vk n d;refine⟨D,E,?_⟩;rw [m.trees];refine Calls.callWith_builtin rfl (Calls.evalArgs_plain (Calls.spliced_cons (cG (p B A G U _ n j) fun L C ⟨y,H2,b,K,l⟩=>
  Calls.spliced_cons (cG (q B C G H2 _ b l) λJ N ⟨z,k,c,P,M,g,S⟩=>j4 ?_))))
 exact E_ w c g K P λR O t r=>⟨_,k,t,r,S⟩
end
end L2
namespace Att
open PySem PySem.W PySem.Calls PyProof.Rows
theorem mw:∀(s:List Int)(v:LV),WellAll P h v (s.map WData.int)->IntsAre v s:=by
 intro s;induction s with
 |nil=>intro v w;rw[gB]at w;cases w;exact .nil
 |cons n s i=>
  intro v w;rw[List.map_cons]at w;cases w with
  |cons a b=>cases a;exact .cons _ _ (i _ b)
theorem xo{l:OpenLaw}(t:l.most=some n)
  (p:l.row.toRowW.claim.pre N=true) (w:WellAll P h vals N) :
  ∃a v s,vals=[Value.ref a]/\N=[WData.list (s.map WData.int)]/\h.get? a=some { cls:=.type "list",data:=.seq v.toArray }/\IntsAre v s/\s.length≤n:=by
 have b:WShape.hasAll [] N [.list .int]=true:=(pre_splitW p).1;have c:l.pre.holds [] { args:=N }=true:=(pre_splitW p).2;obtain⟨d,r,rfl,z,h2⟩:=hasAllW_cons b;obtain rfl:=hasAllW_nil h2;obtain⟨xs,rfl,m⟩:=hasW_list z;obtain⟨s,rfl⟩:=items_int m;have e:s.length≤n:=by
  unfold OpenLaw.pre at c;have k:(WTm.not (.lt (.lit (.int (n:Int))) (.len (.arg 0)))).holds [] { args:=[.list (s.map .int)] }=true:=by have k:=(holds_andW c).1;rw[t]at k;exact k
  have f:=condW_of k (w_not (w_lt w_lit (w_len_list (w_arg rfl))));rw[a9]at f;refine Nat.le_of_not_lt λq=>?_;have u:(n:Int) < ((s.length:Nat):Int):=by lia
  first
   |(rw[ir u]at f;exact absurd f (by decide))
   |(simp at f;lia)
 cases w with
 |cons g i=>
  cases i;cases g with
  |list o x=>exact⟨_,_,s,rfl,rfl,o,mw s _ x,e⟩
theorem xu(l:OpenLaw)(a:List WData):l.row.toRowW.claim.post a (.bool true) a=true:=
 postW_of (r:=l.row.toRowW) (X:=(true == true))
  (show WShape.has [] (.bool true) .bool=true by first|rfl|decide|simp[WShape.has,WShape.arms,WShape.armsAll])
  (show(WTm.eq .res (.lit (.bool true))).value [] { args:=a,res:=some (.bool true),after:=a }=some (.bool (true == true)) from w_eq_bool (w_res rfl) w_lit) rfl
theorem attach_call{l:OpenLaw}
  (C:l.most=some n) (q:d.params.defaults=[])
  (call:∀(w:World) (h s:Shared) (mg j:SV) (x:Addr) (o:Obj) (y k c:Value) (a:Addr) (v:LV) (m:List Int),
   Ground N loose [] XP w h mg j s.heap->YP w s.heap ->
   s.heap.get? x=some o->o.data=.func (docDef d.name d.params d.body d.scope y k c)->s.heap.CodeRec k d.name->mg d.name=some (.ref x) ->
   s.heap.get? a=some { cls:=.type "list",data:=.seq v.toArray }->IntsAre v m->m.length≤n->s.gens=#[] ->
   codeAny (model l.prog w) callerA (.call (.ref x) ⟨[.ref a],[]⟩) (λr J=>r=.ok (.ret (.bool true))/\OldK s.heap J.heap/\J.os=s.os/\AllBare J.gens) s) :
  WalkO N loose XP YP l.row.toRowW d [] (λf v=>PySem.call f v):=by
 intro w h s mg j G Y x o y k c V kV E hd t D g P z S M p H L u A;obtain rfl:V=.none:=Dflts.none D q;obtain rfl:kV=.none:=Dflts.noKw D;obtain⟨a,v,m,rfl,rfl,b,i,e⟩:=xo C p u;refine enter_call (codeAny_mono (call w h s mg j x o y k c a v m G Y E (fd_plain hd) t g b i e P) λr J I=>?_);obtain⟨rfl,h2,F,K⟩:=I;exact⟨.inl ⟨.bool true,.bool true,[],rfl,λ_=>rfl,.bool true,xu l _,λ_=>⟨List.Pairwise.nil,λ_ B=>(nomatch B)⟩⟩,h2,F,K⟩
end Att
namespace L2
open PySem PySem.Spec PyProof.Rows
theorem pj:∀{v:LV}{s:List Int},IntsAre v s->aK (s.map V.int) v
 |_,_,.nil=>.nil
 |_,_,.cons n t h=>.cons ⟨t,rfl⟩ (pj h)
def yd(H:Hp):Prop:=∀b,H b=none\/∃o xs,H b=some (.frz o (.lst xs))
set_option tactic.hygienic true in
theorem zK{P:Program}{w:World}{K:FG}{mg W:SV}{CX:yg}{k:Nat}{Q a:Addr}{fd:FuncData}{x:Str}{sp:Sp}{t:Shared}{y:LV}{L:List Int}
  (Z:K.In t.heap) (D:t.heap.Ns mainGlobals mg) (g:t.heap.Ns builtinsNs W) (R:∀x:Str,x≠"__name__"->W x=bootBuiltins x) (C:t.heap.NoLimit) (hg:t.gens=#[])
  (N:t.heap.get? a=some { cls:=.type "list",data:=.seq y.toArray }) (q:IntsAre y L) (hl:L.length≤sizeLine) (hr:Room k callerA)
  (F:∀base:Heap,K.In base->base.Ns mainGlobals mg->FnOk P w K mg base CX k Q fd [x] sp) (l:∀(s:Shared)(u:Value),BindsTo s fd ⟨[u],[]⟩ [(x,u)])
  (U:∀H:Hp,yd H->hX K H a (L.map V.int)->sp [.ref a] H (λv _=>v=.bl true) λ_ _ _=>False)
  (X:∀H e J,CX [] H t (λ_ _ _=>False) e J->False) :
  codeAny (model P w) callerA (.call (.ref Q) ⟨[.ref a],[]⟩) (λr J=>r=.ok (.ret (.bool true))/\OldK t.heap J.heap/\J.os=t.os/\AllBare J.gens) t:=by
 have rv:=pj q;have I:=q.length;have j:∀H:Hp,yd H->hX K H a (L.map V.int)->jJ P w H t.heap->(∀b,H b≠none->b=a)->(H a≠none->K.lookup a=none) ->
   codeAny (model P w) callerA (.call (.ref Q) ⟨[.ref a],[]⟩) (λr J=>r=.ok (.ret (.bool true))/\OldK t.heap J.heap/\J.os=t.os/\AllBare J.gens) t:=by
  intro H hO hS E hA hK;have p:∀{b:Addr}{o:Obj},t.heap.get? b=some o->H b=none->(rL t.heap H).get? b=some o:=λe n=>z5 e n
  have Y:∀{b:Addr}{o:Obj}{es:Array DictEntry}{A:Nat},t.heap.get? b=some o->o.data=.dict es A->H b=none:=λ{b o es A} e d=>by
   cases f:H b with
   |none=>rfl
   |some u=>have O:b=a:=hA b (by rw[f];simp);subst O;rw[N]at e;cases e;have d':Data.seq y.toArray _=Data.dict es A:=d;cases d'
  have i:∀{b:Addr}{m:SV},t.heap.Ns b m->(rL t.heap H).Ns b m:=fun {b m} ⟨o,es,A,e,d,r⟩=>⟨o,es,A,p e (Y e d),d,r⟩;have B:K.In (rL t.heap H):=fun b o e=>p (Z b o e) (by
   cases f:H b with
   |none=>rfl
   |some u=>have O:b=a:=hA b (by rw[f];simp);subst O;rw[hK (by rw[f];simp)]at e;cases e)
  have hM:Mod K mg (rL t.heap H):=⟨B,i D,⟨W,i g,R⟩,let ⟨mc,z,h2⟩:=C;⟨mc,i z,h2⟩⟩;have e0:Env0 P w K mg (rL t.heap H) callerA [] t H:=⟨rfl,hM,λb o e=>BM e,Nat.le_of_eq (xP _ _),trivial,λb g=>absurd (show b ∈ ([]:List Addr) from g) (by simp),E,.of_eq hg⟩;refine codeAny_mono ((F _ B (i D)).run callerA [] t H ⟨[.ref a],[]⟩ [.ref a] [.ref a] _ _ hr e0 (l t (.ref a)) (.cons rfl .nil) (U H hO hS)) λr J h=>?_;cases r with
  |error e=>exact(X H e J h).elim
  |ok fl=>
   cases fl with
   |next=>exact False.elim h
   |brk=>exact False.elim h
   |cont=>exact False.elim h
   |ret u=>
    obtain⟨v,H',os,S,un,G,r',f⟩:=h;have q':v=.bl true:=f;subst q';obtain rfl:u=Value.bool true:=r';refine⟨rfl,OldK.of_keep λb o e=>?_,os,S⟩;cases f:H b with
    |none=>exact un.keep b o e f (by intro c;exact absurd (show b ∈ ([]:List Addr) from c) (by simp)) (by simp)
    |some u=>
     rcases hO b with c|⟨ob,xs,c⟩
     .rw [f]at c;cases c
     .have z2:=un.frzs b ob _ c;obtain⟨e1,_⟩:=E b _ c;obtain⟨e2,_⟩:=G b _ z2;rw[e]at e1;cases e1;exact e2
 cases T:K.lookup a with
 |some o=>have e:=Z a o T;rw[N]at e;cases e;refine j (λ_=>none) (λ_=>.inl rfl) (.inr ⟨_,y.toArray,_,T,rfl,rfl,rfl,by rw[List.size_toArray,I];exact hl,by simpa using rv⟩) (λb u c=>by have M:(none:Option HO)=some u:=c;cases M) (λb c=>absurd rfl c) λc=>absurd rfl c
 |none=>
  refine j (λb=>if b=a then some (.frz { cls:=.type "list",data:=.seq y.toArray } (.lst (L.map V.int))) else none) (λb=>?_) (.inl (.inr ⟨{ cls:=.type "list",data:=.seq y.toArray },if_pos rfl⟩)) (λb u c=>?_) (λb c=>?_) λ_=>T
  .by_cases g:b=a
   .exact .inr ⟨_,_,if_pos g⟩
   .exact .inl (if_neg g)
  .by_cases g:b=a
   .have M:=(if_pos g).symm.trans c;cases M;subst g;exact⟨N,by rw[a9];exact hl,y,_,rv,N⟩
   .have M:=(if_neg g).symm.trans c;cases M
  .by_cases g:b=a
   .exact g
   .exact absurd (if_neg g) c
noncomputable abbrev LO{K:FG}(_:K.In h):FG:=K
theorem AY{l:PySem.W.OpenLaw}{n k:Nat}{q:Program}{c:LS}{B:(SV)->Heap->Prop}{P:World->Heap->Prop}{d:DefRec}{K:Params->FG}{CX:World->yg}{sp:World->Sp}{x:Str}
  (R:l.most=some n) (y:n≤sizeLine) (p:d.params.defaults=[]) (T:Room k callerA)
  (L:∀(w:World)(h:Heap),P w h->(K w.params).In h)
  (F:∀(w:World) (mg:SV) (r:Addr) (h:Heap),(K w.params).In h->h.Ns mainGlobals mg->mg d.name=some (.ref r) ->
   ∃fd:FuncData,(∀(s:Shared)(u:Value),BindsTo s fd ⟨[u],[]⟩ [(x,u)]) /\
    ∀base:Heap,(K w.params).In base->base.Ns mainGlobals mg->FnOk l.prog w (K w.params) mg base (CX w) k r fd [x] (sp w))
  (z:∀(w:World)(H:Hp)(a:Addr)(t:List Int),t.length≤n->yd H->hX (K w.params) H a (t.map V.int)->sp w [.ref a] H (λv _=>v=.bl true) λ_ _ _=>False)
  (C:∀(w:World)(H:Hp)(s:Shared)(e:Value)(J:Shared),CX w [] H s (λ_ _ _=>False) e J->False) :
  PySem.W.WalkO q c B P l.row.toRowW d [] (λf A=>PySem.call f A):=by
 refine Att.attach_call R p λw S m mg Z r o pm U D a A t G Y W hd N g j i b Q=>?_;have X:=L w _ Y;obtain⟨fd,M,E⟩:=F w mg r _ X G.T.g g;exact zK X G.T.g G.T.b G.T.builtins G.T.nolimit Q j i (aM b y) T E M (λH O I=>z w H a t b O I) λH e J=>C w H m e J
theorem yt{l:PySem.W.OpenLaw}{n k:Nat}{q:Program}{o:LS}{X:(SV)->Heap->Prop}{Y:World->Heap->Prop}{d:DefRec}{K:Params->FG}{CX:yg}{sp:FG->Sp}{x:Str}
  (i:l.most=some n) (m:n≤sizeLine) (c:d.params.defaults=[]) (j:Room k callerA)
  (g:∀(w:World)(h:Heap),Y w h->(K w.params).In h)
  (F:∀(w:World) (mg:SV) (r:Addr) (h:Heap),(K w.params).In h->h.Ns mainGlobals mg->mg d.name=some (.ref r) ->
   ∃fd:FuncData,(∀(s:Shared)(u:Value),BindsTo s fd ⟨[u],[]⟩ [(x,u)]) /\
    ∀base:Heap,(K w.params).In base->base.Ns mainGlobals mg->FnOk l.prog w (K w.params) mg base CX k r fd [x] (sp (K w.params)))
  (p:∀(K:FG)(H:Hp)(a:Addr)(b:List Int),b.length≤n->yd H->hX K H a (b.map V.int)->sp K [.ref a] H (λv _=>v=.bl true) λ_ _ _=>False)
  (C:∀(H:Hp)(s:Shared)(e:Value)(J:Shared),CX [] H s (λ_ _ _=>False) e J->False) :
  PySem.W.WalkO q o X Y l.row.toRowW d [] (λf y=>PySem.call f y):=
 AY (K:=K) (CX:=λ_=>CX) (sp:=λw=>sp (K w.params)) i m c j g F (λw H a b z h2 t=>p (K w.params) H a b z h2 t) λ_ H s e J=>C H s e J
noncomputable def cu(s:Stmt)(j:Nat):Stmt:=match s with
 | .ClassDef _ _ _ b _ _ _ _ _ _ _=>b.getD j (.Pass ⟨0,0,0,0⟩)
 |_=>.Pass ⟨0,0,0,0⟩
noncomputable def gq(s:Stmt):Arguments:=match s with
 | .FunctionDef _ a _ _ _ _ _ _ _ _=>a
 |_=>{ posonlyargs:=[],args:=[],vararg:=none,kwonlyargs:=[],kw_defaults:=[],kwarg:=none,defaults:=[] }
noncomputable def dQ(s:Stmt):List Stmt:=match s with
 | .FunctionDef _ _ b _ _ _ _ _ _ _=>b
 |_=>[]
noncomputable def aV(s:Stmt):Scope:=match s with
 | .FunctionDef _ _ _ _ _ _ sc _ _ _=>sc
 |_=>{ kind:=.function,names:=[],isGenerator:=false,isCoroutine:=false }
noncomputable abbrev qc:yg:=λ_ _ _ _ _ _=>False
noncomputable abbrev E0:XK:=λ_ _ _=>False
theorem pI:kr qc X E0:=λ_ _ _ _ _ _ _ h=>h.elim
structure Fun(K:FG)(x qual:Str)(st:Stmt)(f:Addr)(fd:FuncData):Prop where
 ex:∃(oc:Value)(od:Option Addr)(kV doc pm:Value)(an:Option Addr)(cdv ct:Value)(osl:Array (OV)),
  fd=PySem.W.fnOf x qual (gq st) (dQ st) (aV st) .none kV doc pm an cdv ct/\K.lookup f=some ⟨oc,od,.func fd,osl⟩/\PySem.W.codeIn K cdv qual=true
 kp:PySem.W.keepIn K (.ref f)=true
section
variable{P:Program}{w:World}{K:FG}{mg:SV}{base:Heap}
theorem Fun.ok{x u:Str}{st:Stmt}{f:Addr}{fd:FuncData}{N ps:LS}{k:Nat}{sp:Sp}(F:Fun K x u st f fd)(S:FnScope N ps (aV st))(len:∀v H Q E,sp v H Q E->v.length=ps.length)
  (b:∀(c:Value) (A:Around) (o:List Env) (s:Shared) (H:Hp) (v:List V) (Q:VK) (E:XK),Room k (A.deeper (envOfC u (aV st) s.heap.objs.size f c))->sp v H Q E ->
   ∃t,mJ (uu qc P w K mg base N u (aV st) f c A o s H E).nox (dQ st) t/\t { nx:=λ_ H'=>Q .non H',rt:=Q } (start N v) H):FnOk P w K mg base qc (k+1) f fd ps sp:=by
 obtain⟨m,g,kV,a,i,n,c,e,l,rfl,lk,d⟩:=F.ex;refine HU lk d S len λA o s H v Q E r p=>?_;obtain⟨t,h,q⟩:=b c A o s H v Q E r p;exact⟨t,h.nox,q⟩
theorem Fun.binds{x q:Str}{st:Stmt}{f:Addr}{fd:FuncData}{ps:LS}(F:Fun K x q st f fd)
  (h:∀(kV d p:Value)(a:Option Addr)(c t:Value)(Y:LV),Y.length=ps.length->bindArgs (PySem.W.fnOf x q (gq st) (dQ st) (aV st) .none kV d p a c t) ⟨Y,[]⟩=pure (ps.zip Y)):Binds K fd ps []:=by
 obtain⟨s,n,kV,d,p,a,c,t,o,rfl,lk,e⟩:=F.ex;exact .all (h kV d p a c t)
theorem ji{x q:Str}{st:Stmt}{f:Addr}{h:Value}{e a:Option Addr}{s:Array (OV)}{kV o p d t:Value}(l:K.lookup f=some ⟨h,e,.func (PySem.W.fnOf x q (gq st) (dQ st) (aV st) .none kV o p a d t),s⟩)
  (c:PySem.W.codeIn K d q=true) (k:PySem.W.keepIn K (.ref f)=true):Fun K x q st f (PySem.W.fnOf x q (gq st) (dQ st) (aV st) .none kV o p a d t):=⟨⟨h,e,kV,o,p,a,d,t,s,rfl,l,c⟩,k⟩
end
section
variable{X:Cx}
theorem pv(i:Nat)(N:X.N[i]? = some x:=by rfl)(v:Fk X.env.scope x:=by first|exact Or.inl rfl|exact Or.inr (Or.inl rfl)|exact Or.inr (Or.inr rfl))(hd:(x == ("__debug__":Str))=false:=by decide)
  (h:(x == ("__classdict__":Str))=false:=by decide):PE X (.Name x O) (Gx i):=y9 N v hd h
end
def MM(H H':Hp):Prop:=∀b o,H b=some o->H' b=some o
end L2
namespace PySem
open PySem PyProof.Rows
namespace F
theorem entry_dict_update_loop:entryFor table "dict.update.loop"=some Builtin.«dict.update.loop»:=entryFor_of_tree (by kernel_rfl)
theorem plain_dict_update_loop:plainId "dict.update.loop"=true:=by decide +kernel
end F
section
variable{prog:Program}{w:World}{A:Around}{E:VP}{s:Shared}
inductive PairsAt{K:Type}[DecidableEq K](knd:KeyKind prog w K)(h:Heap):LV->List (K×Value)->Prop
 |nil:PairsAt knd h [] []
 |cons {t:Addr}{key v:Value}{k:K}{us:LV}{kvs:List (K×Value)}:IsTup h t #[key,v]->knd.is k key=true->PairsAt knd h us kvs->PairsAt knd h (.ref t::us) ((k,v)::kvs)
end
end PySem
namespace Ev
open PySem L2
def HH(a C:Addr):Heap->Prop:=λh=>∃o,h.get? a=some o/\o.cls=.ref C
inductive P where
 |non|bl (b:Bool)|int (i:Int)|str (x:Str)|tup (xs:List P)|lst (xs:List P)|ro (xs:List P)|dct (ks:List bB) (vs:List P)
inductive D where
 |p (v:P)|ref (i:Nat)
inductive SO where
 |lst (xs:List D)|dct (ks:List bB) (vs:List D)|fz (v:P)|ins (c:Str) (ks:LS) (vs:List D)|exc (c:Str)|dtt (ks:List (List bB)) (vs:List D)
noncomputable abbrev aD:=List SO
noncomputable abbrev Lc:=List (Option D)
def K6(K:FG)(a:Addr)(xs:List V):Prop:=sO K (λ_=>none) a xs
def K7(K:FG)(a:Addr)(xs:List V):Prop:=hX K (λ_=>none) a xs
def TupAt(K:FG)(H:Hp)(a:Addr)(xs:List V):Prop:=H a=some (.tup xs)\/K6 K a xs
def LstAt(F:Aa)(H:Hp)(a:Addr)(xs:List V):Prop:=F a/\H a=some (.lst xs)
def yc(K:FG)(F:Aa)(H:Hp)(a:Addr)(xs:List V):Prop:=(F a/\∃o,H a=some (.frz o (.lst xs)))\/K7 K a xs
variable{K:FG}{H:Hp}{a:Addr}{xs:List V}
theorem TupAt.sq(h:TupAt K H a xs):sO K H a xs:=by
 rcases h with h|(h|h)
 .exact .inl (.inl h)
 .rcases h with h|⟨o,h⟩<;>cases h
 .exact .inr h
variable{F:Aa}
theorem LstAt.sq(h:LstAt F H a xs):hX K H a xs:=.inl (.inl h.2)
theorem yc.sq(h:yc K F H a xs):hX K H a xs:=by
 rcases h with ⟨_,o,h⟩|(h|h)
 .exact .inl (.inr ⟨o,h⟩)
 .rcases h with h|⟨o,h⟩<;>cases h
 .exact .inr h
section
variable(K:FG)(F:Aa)(H:Hp)
mutual
noncomputable def RP:P->V->Prop
 | .non,v=>v=.non
 | .bl b,v=>v=.bl b
 | .int i,v=>v=.int i
 | .str x,v=>v=.str x
 | .tup ds,v=>∃a xs,v=.ref a/\TupAt K H a xs/\ci ds xs
 | .lst ds,v=>∃a xs,v=.ref a/\LstAt F H a xs/\ci ds xs
 | .ro ds,v=>∃a xs,v=.ref a/\yc K F H a xs/\ci ds xs
 | .dct ks ds,v=>∃a kvs,v=.ref a/\F a/\H a=some (.dK kvs)/\kvs.map (·.1)=ks/\ci ds (kvs.map (·.2))
noncomputable def ci:List P->List V->Prop
 | [],xs=>xs=[]
 |d::ds,xs=>∃x r,xs=x::r/\RP d x/\ci ds r
end
def RD(m:List Addr):D->V->Prop
 | .p d,v=>RP K F H d v
 | .ref i,v=>∃a,v=.ref a/\m[i]? = some a
def dm(m:List Addr):List D->List V->Prop
 | [],xs=>xs=[]
 |d::s,xs=>∃x r,xs=x::r/\RD K F H m d x/\dm m s r
def RO(m:List Addr)(a:Addr):SO->Prop
 | .lst d=>∃xs,H a=some (.lst xs)/\dm K F H m d xs
 | .dct s d=>∃k,H a=some (.dK k)/\k.map (·.1)=s/\dm K F H m d (k.map (·.2))
 | .fz v=>RP K F H v (.ref a)
 | .ins c s d=>∃C x k,PySem.W.nsIn K mainGlobals c=some (some (.ref C))/\H a=some (.ins C x k)/\k.map (·.1)=s/\dm K F H m d (k.map (·.2))
 | .dtt s d=>∃k,H a=some (.dT k)/\k.map (·.1)=s/\dm K F H m d (k.map (·.2))
 | .exc c=>∃C,PySem.W.nsIn K mainGlobals c=some (some (.ref C))/\H a=some (.ext (HH a C))
def SO.own:SO->Prop
 | .fz _=>False
 |_=>True
structure Rel(m:List Addr)(S:aD):Prop where
 len:m.length=S.length
 nd:m.Nodup
 obj:∀(i:Nat) a o,m[i]? = some a->S[i]? = some o->RO K F H m a o
 sep:∀(i:Nat) a o,m[i]? = some a->S[i]? = some o->o.own->¬F a
 trk:∀a ∈ m,H a≠none
 ft:∀a,F a->H a≠none
end
structure Kp(F:Aa)(m:List Addr)(H:Hp)(F':Aa)(m':List Addr)(H':Hp):Prop where
 pre:∃n,m'=m++n
 frz:∀b,F b->F' b
 frk:∀b o,F b->H b=some o->H' b=some o
 tup:∀b xs,H b=some (.tup xs)->H' b=some (.tup xs)
structure Stp(F:Aa)(m:List Addr)(H:Hp)(F':Aa)(m':List Addr)(H':Hp):Prop where
 pre:∃n,m'=m++n
 oth:∀b o,H b=some o->b ∉ m->H' b=some o
 frz:∀b,F b->F' b
 frk:∀b o,F b->H b=some o->H' b=some o
 tup:∀b xs,H b=some (.tup xs)->H' b=some (.tup xs)
 trk:∀b,H b≠none->H' b≠none
 nf:∀b,F' b->F b\/H b=none\/b ∈ m
 nm:∀b,b ∈ m'->b ∈ m\/H b=none
variable{F':Aa}{m:List Addr}{m':List Addr}{H':Hp}
theorem Stp.kp(s:Stp F m H F' m' H'):Kp F m H F' m' H':=⟨s.pre,s.frz,s.frk,s.tup⟩
theorem Stp.refl:Stp F m H F m H:=
 ⟨⟨[],by simp⟩,λ_ _ h _=>h,λ_ h=>h,λ_ _ _ h=>h,λ_ _ h=>h,λ_ h=>h,λ_ h=>.inl h,λ_ h=>.inl h⟩
theorem Stp.trans(a:Stp F m H Y k I)(b:Stp Y k I B r U):Stp F m H B r U where
 pre:=by obtain⟨f,s⟩:=a.pre;obtain⟨t,n⟩:=b.pre;exact⟨f++t,by rw[n,s,List.append_assoc]⟩
 oth:=λc o h x=>b.oth c o (a.oth c o h x) λz=>by
  rcases a.nm c z with z|z
  .exact x z
  .rw [h]at z;cases z
 frz:=λc h=>b.frz c (a.frz c h)
 frk:=λc o h e=>b.frk c o (a.frz c h) (a.frk c o h e)
 tup:=λc xs h=>b.tup c xs (a.tup c xs h)
 trk:=λc h=>b.trk c (a.trk c h)
 nf:=λc h=>by
  rcases b.nf c h with h|h|h
  .exact a.nf c h
  .by_cases e:H c=none
   .exact .inr (.inl e)
   .exact absurd h (a.trk c e)
  .rcases a.nm c h with h|h
   .exact .inr (.inr h)
   .exact .inr (.inl h)
 nm:=λc h=>by
  rcases b.nm c h with h|h
  .exact a.nm c h
  .by_cases e:H c=none
   .exact .inr e
   .exact absurd h (a.trk c e)
section
variable{K:FG}{F F':Aa}{H H':Hp}{m m':List Addr}{S O:aD}
theorem TupAt.kp(s:Kp F m H F' m' H')(h:TupAt K H a xs):TupAt K H' a xs:=by
 rcases h with h|h
 .exact .inl (s.tup _ _ h)
 .exact .inr h
theorem LstAt.kp(s:Kp F m H F' m' H')(h:LstAt F H a xs):LstAt F' H' a xs:=⟨s.frz _ h.1,s.frk _ _ h.1 h.2⟩
theorem yc.kp(s:Kp F m H F' m' H')(h:yc K F H a xs):yc K F' H' a xs:=by
 rcases h with ⟨f,o,h⟩|h
 .exact .inl ⟨s.frz _ f,o,s.frk _ _ f h⟩
 .exact .inr h
mutual
theorem RP.kp(s:Kp F m H F' m' H'):∀{d:P}{v:V},RP K F H d v->RP K F' H' d v
 | .non,_,h=>h
 | .bl _,_,h=>h
 | .int _,_,h=>h
 | .str _,_,h=>h
 | .tup _,_,h=>by obtain⟨a,xs,e,t,r⟩:=h;exact⟨a,xs,e,t.kp s,ci.kp s r⟩
 | .lst _,_,h=>by obtain⟨a,xs,e,t,r⟩:=h;exact⟨a,xs,e,t.kp s,ci.kp s r⟩
 | .ro _,_,h=>by obtain⟨a,xs,e,t,r⟩:=h;exact⟨a,xs,e,t.kp s,ci.kp s r⟩
 | .dct _ _,_,h=>by obtain⟨a,kvs,e,f,t,k,r⟩:=h;exact⟨a,kvs,e,s.frz _ f,s.frk _ _ f t,k,ci.kp s r⟩
theorem ci.kp(s:Kp F m H F' m' H'):∀{ds:List P}{xs:List V},ci K F H ds xs->ci K F' H' ds xs
 | [],_,h=>h
 |_::_,_,h=>by obtain⟨x,r,e,h1,h2⟩:=h;exact⟨x,r,e,RP.kp s h1,ci.kp s h2⟩
end
theorem RD.kp(s:Kp F m H F' m' H'):∀{d:D}{v:V},RD K F H m d v->RD K F' H' m' d v
 | .p _,_,h=>RP.kp s h
 | .ref i,_,h=>by obtain⟨a,e,h⟩:=h;obtain⟨n,x⟩:=s.pre;refine⟨a,e,?_⟩;rw[x];have k:i < m.length:=(List.getElem?_eq_some_iff.mp h).1;rw[List.getElem?_append_left k];exact h
theorem dm.kp(s:Kp F m H F' m' H'):∀{d:List D}{xs:List V},dm K F H m d xs->dm K F' H' m' d xs
 | [],_,h=>h
 |_::_,_,h=>by obtain⟨x,r,e,a,n⟩:=h;exact⟨x,r,e,RD.kp s a,dm.kp s n⟩
variable{d:P}{v:V}
theorem RP.mono(s:Stp F m H F' m' H')(h:RP K F H d v):RP K F' H' d v:=RP.kp s.kp h
theorem ci.mono(s:Stp F m H F' m' H'){d:List P}{v:List V}(h:ci K F H d v):ci K F' H' d v:=ci.kp s.kp h
theorem RD.mono(s:Stp F m H F' m' H'){d:D}{v:V}(h:RD K F H m d v):RD K F' H' m' d v:=RD.kp s.kp h
theorem dm.mono(s:Stp F m H F' m' H'){d:List D}{v:List V}(h:dm K F H m d v):dm K F' H' m' d v:=dm.kp s.kp h
theorem ci.length:∀{d:List P}{xs:List V},ci K F H d xs->d.length=xs.length
 | [],_,h=>by rw[show _=([]:List V) from h]<;>rfl
 |_::_,_,h=>by obtain⟨x,r,e,_,a⟩:=h;rw[e,bc,bc,ci.length a]
theorem dm.length:∀{d:List D}{xs:List V},dm K F H m d xs->d.length=xs.length
 | [],_,h=>by rw[show _=([]:List V) from h]<;>rfl
 |_::_,_,h=>by obtain⟨x,r,e,_,a⟩:=h;rw[e,bc,bc,dm.length a]
theorem ci.get:∀{s:List P}{xs:List V}{i:Nat}{d:P},ci K F H s xs->s[i]? = some d->∃x,xs[i]? = some x/\RP K F H d x
 | [],_,_,_,_,e=>by simp at e
 |_::_,_,0,_,h,e=>by obtain⟨x,r,rfl,n,_⟩:=h;simp at e;subst e;exact⟨x,rfl,n⟩
 |_::_,_,i+1,d,h,e=>by obtain⟨x,r,rfl,_,k⟩:=h;obtain⟨y,a,f⟩:=ci.get (i:=i) k (by simpa using e);exact⟨y,by simpa using a,f⟩
theorem ci.append:∀{d C:List P}{xs y:List V},ci K F H d xs->ci K F H C y->ci K F H (d++C) (xs++y)
 | [],_,_,_,h,g=>by rw[show _=([]:List V) from h];exact g
 |_::_,_,_,_,h,g=>by obtain⟨x,r,rfl,a,e⟩:=h;exact⟨x,r++_,rfl,a,ci.append e g⟩
theorem dm.append:∀{d C:List D}{xs y:List V},dm K F H m d xs->dm K F H m C y->dm K F H m (d++C) (xs++y)
 | [],_,_,_,h,g=>by rw[show _=([]:List V) from h];exact g
 |_::_,_,_,_,h,g=>by obtain⟨x,r,rfl,a,e⟩:=h;exact⟨x,r++_,rfl,a,dm.append e g⟩
theorem ci.take:∀(n:Nat){d:List P}{xs:List V},ci K F H d xs->ci K F H (d.take n) (xs.take n)
 |0,_,_,_=>rfl
 |_+1,[],_,h=>by rw[show _=([]:List V) from h];rfl
 |n+1,_::_,_,h=>by obtain⟨x,r,rfl,a,e⟩:=h;exact⟨x,r.take n,rfl,a,ci.take n e⟩
theorem ci.drop:∀(n:Nat){d:List P}{xs:List V},ci K F H d xs->ci K F H (d.drop n) (xs.drop n)
 |0,_,_,h=>h
 |_+1,[],_,h=>by rw[show _=([]:List V) from h];rfl
 |n+1,_::_,_,h=>by obtain⟨x,r,rfl,_,a⟩:=h;exact ci.drop n a
theorem dm.take:∀(n:Nat){d:List D}{xs:List V},dm K F H m d xs->dm K F H m (d.take n) (xs.take n)
 |0,_,_,_=>rfl
 |_+1,[],_,h=>by rw[show _=([]:List V) from h];rfl
 |n+1,_::_,_,h=>by obtain⟨x,r,rfl,a,e⟩:=h;exact⟨x,r.take n,rfl,a,dm.take n e⟩
theorem dm.get:∀{s:List D}{xs:List V}{i:Nat}{d:D},dm K F H m s xs->s[i]? = some d->∃x,xs[i]? = some x/\RD K F H m d x
 | [],_,_,_,_,e=>by simp at e
 |_::_,_,0,_,h,e=>by obtain⟨x,r,rfl,n,_⟩:=h;simp at e;subst e;exact⟨x,rfl,n⟩
 |_::_,_,i+1,d,h,e=>by obtain⟨x,r,rfl,_,k⟩:=h;obtain⟨y,a,f⟩:=dm.get (i:=i) k (by simpa using e);exact⟨y,by simpa using a,f⟩
theorem dm.ofP:∀{d:List P}{xs:List V},ci K F H d xs->dm K F H m (d.map .p) xs
 | [],_,h=>h
 |_::_,_,h=>by obtain⟨x,r,e,a,s⟩:=h;exact⟨x,r,e,a,dm.ofP s⟩
variable{p:Addr}
theorem Rel.fresh_m(r:Rel K F H m S)(h:H p=none):p ∉ m:=λz=>r.trk p z h
theorem Rel.fresh_F(r:Rel K F H m S)(h:H p=none):¬F p:=λz=>r.ft p z h
variable{o:HO}
theorem iD(x:H p=none):Stp F m H F m (cg H p o) where
 pre:=⟨[],by simp⟩
 oth:=λb u h _=>by rw[av (by rintro rfl;rw[x]at h;cases h)];exact h
 frz:=λ_ h=>h
 frk:=λb u _ h=>by rw[av (by rintro rfl;rw[x]at h;cases h)];exact h
 tup:=λb u h=>by rw[av (by rintro rfl;rw[x]at h;cases h)];exact h
 trk:=λb h=>by
  by_cases e:b=p
  .subst e;rw[aJ];exact λz=>nomatch z
  .rw [av e];exact h
 nf:=λ_ h=>.inl h
 nm:=λ_ h=>.inl h
theorem RO.kp(s:Kp F m H F' m' H'){a:Addr}{o:SO}(k:∀u,H a=some u->H' a=some u)(h:RO K F H m a o):RO K F' H' m' a o:=by
 cases o with
 |lst d=>obtain⟨xs,e,r⟩:=h;exact⟨xs,k _ e,dm.kp s r⟩
 |dct b d=>obtain⟨x,e,f,r⟩:=h;exact⟨x,k _ e,f,dm.kp s r⟩
 |fz v=>exact RP.kp s (show RP K F H v (.ref a) from h)
 |ins c b d=>obtain⟨C,t,x,n,e,f,r⟩:=h;exact⟨C,t,x,n,k _ e,f,dm.kp s r⟩
 |dtt b d=>obtain⟨x,e,f,r⟩:=h;exact⟨x,k _ e,f,dm.kp s r⟩
 |exc c=>obtain⟨C,n,e⟩:=h;exact⟨C,n,k _ e⟩
theorem RO.mono(s:Stp F m H F' m' H'){a:Addr}{o:SO}(k:∀u,H a=some u->H' a=some u)(h:RO K F H m a o):RO K F' H' m' a o:=RO.kp s.kp k h
theorem Rel.stayK(r:Rel K F H m S)(s:Kp F m H F' m H')(k:∀a u,a ∈ m->H a=some u->H' a=some u)(n:∀a,F' a->F a\/H a=none)(t:∀a,F' a->H' a≠none):Rel K F' H' m S where
 len:=r.len
 nd:=r.nd
 obj:=λi a o e x=>(r.obj i a o e x).kp s λu h=>k a u (bH e) h
 sep:=λi a o e x w f=>by
  rcases n a f with f|f
  .exact r.sep i a o e x w f
  .exact r.trk a (bH e) f
 trk:=λa h=>by
  cases q:H a with
  |none=>exact absurd q (r.trk a h)
  |some u=>rw[k a u h q];exact λz=>nomatch z
 ft:=t
theorem Rel.stay(r:Rel K F H m S)(s:Stp F m H F' m H')(k:∀a u,a ∈ m->H a=some u->H' a=some u)(n:∀a,F' a->F a\/H a=none)(t:∀a,F' a->H' a≠none):Rel K F' H' m S where
 len:=r.len
 nd:=r.nd
 obj:=λi a o e x=>(r.obj i a o e x).mono s λu h=>k a u (bH e) h
 sep:=λi a o e x w f=>by
  rcases n a f with f|f
  .exact r.sep i a o e x w f
  .exact r.trk a (bH e) f
 trk:=λa h=>s.trk a (r.trk a h)
 ft:=t
theorem Rel.new(r:Rel K F H m S)(x:H p=none):Rel K F (cg H p o) m S:=
 r.stay (iD x) (λa u e h=>by rw[av (by rintro rfl;exact r.fresh_m x e)];exact h) (λ_ f=>.inl f) λa f=>(iD (F:=F) (m:=m) x).trk a (r.ft a f)
theorem gh{p:Addr}{o:HO}(x:H p=none):Stp F m H F (m++[p]) (cg H p o) where
 pre:=⟨[p],rfl⟩
 oth:=(iD (F:=F) (m:=m) (o:=o) x).oth
 frz:=λ_ h=>h
 frk:=(iD (F:=F) (m:=m) (o:=o) x).frk
 tup:=(iD (F:=F) (m:=m) (o:=o) x).tup
 trk:=(iD (F:=F) (m:=m) (o:=o) x).trk
 nf:=λ_ h=>.inl h
 nm:=λb h=>by
  rcases du.mp h with h|h
  .exact .inl h
  .have:b=p:=by simpa using h
   subst this;exact .inr x
theorem Rel.own(r:Rel K F H m S){p:Addr}{o:HO}{c:SO}(n:H p=none)(v:RO K F (cg H p o) (m++[p]) p c):Rel K F (cg H p o) (m++[p]) (S++[c]) where
 len:=by rw[cJ,cJ,r.len];rfl
 nd:=by
  rw[List.nodup_append];refine⟨r.nd,by simp,λa t b q e=>?_⟩;have:b=p:=by simpa using q
  subst this;subst e;exact r.fresh_m n t
 obj:=λi a u x s=>by
  by_cases k:i < m.length
  .rw [List.getElem?_append_left k]at x;rw[List.getElem?_append_left (by rw[<- r.len];exact k)]at s;exact(r.obj i a u x s).mono (gh n) λw h=>by rw[av (by rintro rfl;rw[n]at h;cases h)];exact h
  .have l:i=m.length:=by
    have:=(List.getElem?_eq_some_iff.mp x).1;rw[cJ]at this;simp at this;lia
   subst l;rw[fB (Nat.le_refl _)]at x;rw[r.len,fB (Nat.le_refl _)]at s;simp at x s;subst x;subst s;exact v
 sep:=λi a u x s w f=>by
  by_cases k:i < m.length
  .rw [List.getElem?_append_left k]at x;rw[List.getElem?_append_left (by rw[<- r.len];exact k)]at s;exact r.sep i a u x s w f
  .have l:i=m.length:=by
    have:=(List.getElem?_eq_some_iff.mp x).1;rw[cJ]at this;simp at this;lia
   subst l;rw[fB (Nat.le_refl _)]at x;simp at x;subst x;exact r.fresh_F n f
 trk:=λa h=>by
  rcases du.mp h with h|h
  .exact (gh (F:=F) (m:=m) n).trk a (r.trk a h)
  .have:a=p:=by simpa using h
   subst this;rw[aJ];exact λz=>nomatch z
 ft:=λa f=>(gh (F:=F) (m:=m) n).trk a (r.ft a f)
variable{i:Nat}
theorem fM(r:Rel K F H m S)(x:m[i]? = some p)(s:S[i]? = some k)(hw:k.own)(t:∀xs,H p≠some (.tup xs)):Stp F m H F m (cg H p o) where
 pre:=⟨[],by simp⟩
 oth:=λb u h a=>by rw[av (by rintro rfl;exact a (bH x))];exact h
 frz:=λ_ h=>h
 frk:=λb u f h=>by rw[av (by rintro rfl;exact r.sep i _ k x s hw f)];exact h
 tup:=λb xs h=>by rw[av (by rintro rfl;exact t xs h)];exact h
 trk:=λb h=>by
  by_cases e:b=p
  .subst e;rw[aJ];exact λz=>nomatch z
  .rw [av e];exact h
 nf:=λ_ h=>.inl h
 nm:=λ_ h=>.inl h
theorem tF(h:m.Nodup)(e:m[i]? = some a)(x:m[k]? = some a):i=k:=by exact(List.getElem?_inj (List.getElem?_eq_some_iff.mp e).1 h).mp (e.trans x.symm)
theorem Rel.set(r:Rel K F H m S){i:Nat}{p:Addr}{c b:SO}{o:HO}(s:m[i]? = some p)(k:S[i]? = some c)(hw:c.own)(t:∀xs,H p≠some (.tup xs))(q:RO K F (cg H p o) m p b) :
  Rel K F (cg H p o) m (S.set i b) where
 len:=by rw[eY];exact r.len
 nd:=r.nd
 obj:=λj a u e x=>by
  by_cases n:i=j
  .subst n;rw[s]at e;cases e;rw[dD (by exact(List.getElem?_eq_some_iff.mp k).1)]at x;cases x;exact q
  .rw [a6 n]at x;exact(r.obj j a u e x).mono (fM r s k hw t) λw h=>by rw[av (by rintro rfl;exact n (tF r.nd s e))];exact h
 sep:=λj a u e x w f=>by
  by_cases n:i=j
  .subst n;rw[s]at e;cases e;exact r.sep i p c s k hw f
  .rw [a6 n]at x;exact r.sep j a u e x w f
 trk:=λa h=>(fM (o:=o) r s k hw t).trk a (r.trk a h)
 ft:=λa f=>(fM (o:=o) r s k hw t).trk a (r.ft a f)
theorem qT(x:p ∈ m):Stp F m H (λb=>F b\/b=p) m H:=
 ⟨⟨[],by simp⟩,fun _ _ h _=>h,fun _ h=>.inl h,fun _ _ _ h=>h,fun _ _ h=>h,fun _ h=>h,fun b h=>by
  rcases h with h|h
  .exact .inl h
  .subst h;exact .inr (.inr x),λ_ h=>.inl h⟩
theorem Rel.frz(r:Rel K F H m S){i:Nat}{p:Addr}{c:SO}{v:P}(n:m[i]? = some p)(k:S[i]? = some c)(o:RP K (λb=>F b\/b=p) H v (.ref p)):Rel K (λb=>F b\/b=p) H m (S.set i (.fz v)) where
 len:=by rw[eY];exact r.len
 nd:=r.nd
 obj:=λj a u x e=>by
  by_cases s:i=j
  .subst s;rw[n]at x;cases x;rw[dD (by exact(List.getElem?_eq_some_iff.mp k).1)]at e;cases e;exact o
  .rw [a6 s]at e;exact(r.obj j a u x e).mono (qT (bH n)) λw h=>h
 sep:=λj a u x e w f=>by
  by_cases s:i=j
  .subst s;rw[dD (by exact(List.getElem?_eq_some_iff.mp k).1)]at e;cases e;exact w
  .rw [a6 s]at e;rcases f with f|f
   .exact r.sep j a u x e w f
   .subst f;exact s (tF r.nd n x)
 trk:=r.trk
 ft:=λa f=>by
  rcases f with f|f
  .exact r.ft a f
  .subst f;exact r.trk _ (bH n)
end
noncomputable abbrev EE:=Lc->aD->Option (D×aD)
noncomputable abbrev EV:=Lc->aD->Option (P×aD)
noncomputable abbrev EB:=Lc->aD->Option (Bool×aD)
noncomputable abbrev gf:=Lc->aD->Option (List P×aD)
inductive Fl where
 |nx|rt (d:D)|bk|ct
noncomputable abbrev ES:=Lc->aD->Option (Fl×Lc×aD)
variable{q:Type}{β:Type}
noncomputable def aG(x:Option (q×aD))(f:q->aD->Option β):Option β:=match x with
 |some (a,S)=>f a S
 |none=>none
@[simp] theorem au(a:q)(S:aD)(f:q->aD->Option β):aG (some (a,S)) f=f a S:=rfl
@[simp] theorem Ip(f:q->aD->Option β):aG none f=none:=rfl
theorem ai{q β:Type}{x:Option (q×aD)}{f:q->aD->Option β}{r:β}(h:aG x f=some r):∃a S,x=some (a,S)/\f a S=some r:=by
 cases x with
 |none=>cases h
 |some p=>exact⟨p.1,p.2,rfl,h⟩
def ri(f:D->aD->Option (P×aD)):List D->aD->Option (List P×aD)
 | [],S=>some ([],S)
 |d::r,S=>aG (f d S) λv h=>aG (ri f r h) λs x=>some (v::s,x)
def toP:Nat->D->aD->Option (P×aD)
 |_,.p v,S=>some (v,S)
 |0,.ref _,_=>none
 |n+1,.ref i,S=>match S[i]? with
  |some (.lst d)=>aG (ri (toP n) d S) λs h=>some (.lst s,h.set i (.fz (.lst s)))
  |some (.dct k d)=>aG (ri (toP n) d S) λs h=>some (.dct k s,h.set i (.fz (.dct k s)))
  |some (.fz v)=>some (v,S)
  |some (.ins _ _ _)=>none
  |some (.exc _)=>none
  |some (.dtt _ _)=>none
  |none=>none
@[simp] theorem Gr(n:Nat)(v:P)(S:aD):toP n (.p v) S=some (v,S):=by cases n<;>rfl
theorem kJ(n:Nat):∀(s:List P)(S:aD),ri (toP n) (s.map .p) S=some (s,S)
 | [],_=>rfl
 |v::r,S=>by simp[ri,kJ n r S]
variable{n:Nat}{S:aD}
theorem eG(h:S[i]? = some (.lst (k.map .p))):toP (n+1) (.ref i) S=some (.lst k,S.set i (.fz (.lst k))):=by simp[toP,h,kJ]
section
variable{K:FG}{F:Aa}{H:Hp}{m:List Addr}{S O:aD}
theorem rh 
  (k:∀{d:D}{x:V}{v:P}{F:Aa}{S O:aD},f d S=some (v,O)->Rel K F H m S->RD K F H m d x->∃F',Stp F m H F' m H/\Rel K F' H m O/\O.length=S.length/\RP K F' H v x) :
  ∀{a:List D}{xs:List V}{s:List P}{F:Aa}{S O:aD},ri f a S=some (s,O)->Rel K F H m S->dm K F H m a xs->∃F',Stp F m H F' m H/\Rel K F' H m O/\O.length=S.length/\ci K F' H s xs
 | [],xs,s,F,S,O,h,r,n=>by cases h;exact⟨F,.refl,r,rfl,n⟩
 |d::a,xs,s,F,S,O,h,r,n=>by obtain⟨x,z,e,q,w⟩:=n;obtain⟨v,o,t,h⟩:=ai h;obtain⟨C,A,p,h⟩:=ai h;cases h;obtain⟨Y,b,j,l,g⟩:=k t r q;obtain⟨B,c,y,u,i⟩:=rh k p j (dm.mono b w);exact⟨B,b.trans c,y,u.trans l,x,z,e,RP.mono c g,i⟩
theorem nB:∀(n:Nat){d:D}{x:V}{v:P}{F:Aa}{S O:aD},toP n d S=some (v,O)->Rel K F H m S->RD K F H m d x->∃F',Stp F m H F' m H/\Rel K F' H m O/\O.length=S.length/\RP K F' H v x
 |n,.p w,x,v,F,S,O,h,r,p=>by rw[Gr]at h;cases h;exact⟨F,.refl,r,rfl,p⟩
 |0,.ref i,x,v,F,S,O,h,r,p=>by cases h
 |n+1,.ref i,x,v,F,S,O,h,r,p=>by
  obtain⟨a,e,k⟩:=p;subst e;have t:i < S.length:=by rw[<- r.len];exact(List.getElem?_eq_some_iff.mp k).1
  obtain⟨o,I⟩:∃o,S[i]? = some o:=⟨S[i],by simp[t]⟩;have y:=r.obj i a o k I;simp only[toP,I]at h;cases o with
  |fz w=>cases h;exact⟨F,.refl,r,rfl,y⟩
  |ins c J G=>cases h
  |exc c=>cases h
  |dtt _ _=>cases h
  |lst G=>obtain⟨E,f,u,h⟩:=ai h;cases h;obtain⟨xs,g,B⟩:=y;obtain⟨Y,C,A,l,z⟩:=rh (λh=>nB n h) u r B;obtain⟨M,s⟩:∃o,f[i]? = some o:=⟨f[i]'(by rw[l];exact t),by simp[l,t]⟩;have Q:Stp Y m H (λb=>Y b\/b=a) m H:=qT (bH k);have q:RP K (λb=>Y b\/b=a) H (.lst E) (.ref a):=⟨a,xs,rfl,⟨.inr rfl,g⟩,ci.mono Q z⟩;exact⟨_,C.trans Q,A.frz k s q,by rw[eY];exact l,q⟩
  |dct J G=>obtain⟨E,f,u,h⟩:=ai h;cases h;obtain⟨j,g,L,B⟩:=y;obtain⟨Y,C,A,l,z⟩:=rh (λh=>nB n h) u r B;obtain⟨M,s⟩:∃o,f[i]? = some o:=⟨f[i]'(by rw[l];exact t),by simp[l,t]⟩;have Q:Stp Y m H (λb=>Y b\/b=a) m H:=qT (bH k);have q:RP K (λb=>Y b\/b=a) H (.dct J E) (.ref a):=⟨a,j,rfl,.inr rfl,g,L,ci.mono Q z⟩;exact⟨_,C.trans Q,A.frz k s q,by rw[eY];exact l,q⟩
end
structure Grow(F:Aa)(H:Hp)(F':Aa)(H':Hp):Prop where
 keep:∀b o,H b=some o->H' b=some o
 frz:∀b,F b->F' b
 nf:∀b,F' b->F b\/(H b=none/\H' b≠none)
section
variable{K:FG}{F F' Y B:Aa}{H H' I U:Hp}{m:List Addr}{S O:aD}
theorem Grow.refl:Grow F H F H:=⟨λ_ _ h=>h,λ_ h=>h,λ_ h=>.inl h⟩
theorem Grow.stp(g:Grow F H F' H'):Stp F m H F' m H' where
 pre:=⟨[],by simp⟩
 oth:=λb o h _=>g.keep b o h
 frz:=g.frz
 frk:=λb o _ h=>g.keep b o h
 tup:=λb xs h=>g.keep b _ h
 trk:=λb h=>by
  cases q:H b with
  |none=>exact absurd q h
  |some o=>rw[g.keep b o q];exact λz=>nomatch z
 nf:=λb h=>by
  rcases g.nf b h with h|⟨h,_⟩
  .exact .inl h
  .exact .inr (.inl h)
 nm:=λ_ h=>.inl h
theorem Rel.grow(r:Rel K F H m S)(g:Grow F H F' H'):Rel K F' H' m S:=
 r.stay g.stp (fun a u _ h=>g.keep a u h) (fun a f=>by
  rcases g.nf a f with f|⟨f,_⟩
  .exact .inl f
  .exact .inr f) λa f=>by
  rcases g.nf a f with f|⟨_,f⟩
  .exact (g.stp (m:=m)).trk a (r.ft a f)
  .exact f
theorem b9{p:Addr}{o:HO}(x:H p=none):Grow F H F (cg H p o):=
 ⟨λb u h=>by rw[av (by rintro rfl;rw[x]at h;cases h)];exact h,λ_ h=>h,λ_ h=>.inl h⟩
theorem bQ{p:Addr}{o:HO}(x:H p=none):Grow F H (λb=>F b\/b=p) (cg H p o):=
 ⟨fun b u h=>by rw [av (by rintro rfl;rw [x] at h;cases h)];exact h,fun _ h=>.inl h,fun b h=>by
  rcases h with h|h
  .exact .inl h
  .subst h;exact .inr ⟨x,by rw[aJ];exact λz=>nomatch z⟩⟩
theorem RP.grow(g:Grow F H F' H')(h:RP K F H d v):RP K F' H' d v:=RP.mono (m:=[]) g.stp h
theorem ci.grow(g:Grow F H F' H')(h:ci K F H d v):ci K F' H' d v:=ci.mono (m:=[]) g.stp h
theorem RP.newTup(x:H p=none)(r:ci K F H h xs):RP K F (cg H p (.tup xs)) (.tup h) (.ref p):=⟨p,xs,rfl,.inl aJ,r.grow (b9 x)⟩
theorem RP.newLst(x:H p=none)(r:ci K F H h xs):RP K (λb=>F b\/b=p) (cg H p (.lst xs)) (.lst h) (.ref p):=⟨p,xs,rfl,⟨.inr rfl,aJ⟩,r.grow (bQ x)⟩
end
noncomputable def vC(v:P):EV:=λ_ S=>some (v,S)
noncomputable def aa(i:Nat):EE:=λL S=>match L[i]? with
 |some (some d)=>some (d,S)
 |_=>none
def vE(f:EE):EV:=λL S=>aG (f L S) (toP 9)
def eV(f:EV):EE:=λL S=>aG (f L S) λv h=>some (.p v,h)
def ab(g:P->P->Option P)(a b:EV):EV:=λL S=>aG (a L S) λx h=>aG (b L h) λy e=>(g x y).map λv=>(v,e)
def Dw(g:P->Option P)(a:EV):EV:=λL S=>aG (a L S) λx h=>(g x).map λv=>(v,h)
def bV(a:EV):EB:=λL S=>aG (a L S) λx h=>match x with
 | .bl b=>some (b,h)
 |_=>none
def fV(a b:EB):EB:=λL S=>aG (a L S) λc h=>if c=true then b L h else some (false,h)
def ya(a b:EB):EB:=λL S=>aG (a L S) λc h=>if c=true then some (true,h) else b L h
def mI(a:EB):EB:=λL S=>aG (a L S) λc h=>some (!c,h)
def vB(a:EB):EV:=λL S=>aG (a L S) λc h=>some (.bl c,h)
def Cw(c:EB)(a b:EV):EV:=λL S=>aG (c L S) λk h=>if k=true then a L h else b L h
noncomputable def aO:gf:=λ_ S=>some ([],S)
def aN(a:EV)(r:gf):gf:=λL S=>aG (a L S) λx h=>aG (r L h) λxs e=>some (x::xs,e)
def ae(g:List P->Option P)(a:gf):EV:=λL S=>aG (a L S) λxs h=>(g xs).map λv=>(v,h)
noncomputable def eO:ES:=λL S=>some (.nx,L,S)
noncomputable def af(f g:ES):ES:=λL S=>match f L S with
 |some (.nx,h,x)=>g h x
 |r=>r
def am(i:Nat)(f:EE):ES:=λL S=>aG (f L S) λd h=>some (.nx,L.set i (some d),h)
def aH(f:EE):ES:=λL S=>aG (f L S) λd h=>some (.rt d,L,h)
def bP(f:EE):ES:=λL S=>aG (f L S) λ_ h=>some (.nx,L,h)
def d_(c:EB)(a b:ES):ES:=λL S=>aG (c L S) λk h=>if k=true then a L h else b L h
noncomputable def nG:ES:=λ_ _=>none
noncomputable def IM:ES:=λL S=>some (.ct,L,S)
noncomputable abbrev iU:=P->Lc->Option Lc
noncomputable def ag(i:Nat):iU:=λv L=>some (L.set i (some (.p v)))
noncomputable def aR(g:iU)(b:ES):List P->Lc->aD->Option (Fl×Lc×aD)
 | [],L,S=>some (.nx,L,S)
 |v::r,L,S=>match g v L with
  |none=>none
  |some a=>match b a S with
   |some (.nx,L2,h)=>aR g b r L2 h
   |some (.ct,L2,h)=>aR g b r L2 h
   |some (.bk,L2,h)=>some (.nx,L2,h)
   |x=>x
def b6(i:gf)(g:iU)(b:ES):ES:=λL S=>aG (i L S) λxs h=>aR g b xs L h
open PySem PySem.Spec PyProof.Rows L2
section
variable(K:FG)
structure RL(F:Aa)(H:Hp)(m:List Addr)(σ:L2.St)(L:Lc):Prop where
 len:σ.length=L.length
 at':∀(i:Nat) d,L[i]? = some (some d)->∃v,σ[i]? = some (some v)/\RD K F H m d v
inductive tEI(f:EE)(σ:L2.St)(H:Hp)(Q:VK):Prop
 |mk (F:Aa) (m:List Addr) (L:Lc) (S:aD) (d:D) (S':aD) (h0_:Rel K F H m S) (h1_:RL K F H m σ L) (h2_:f L S=some (d,S')) (h3_:∀v F' m' H',Stp F m H F' m' H'->Rel K F' H' m' S'->RD K F' H' m' d v->Q v H'):tEI f σ H Q
noncomputable def tE(f:EE):TE:=λM H Q=>tEI K f M H Q
inductive tVI(f:EV)(σ:L2.St)(H:Hp)(Q:VK):Prop
 |mk (F:Aa) (m:List Addr) (L:Lc) (S:aD) (d:P) (S':aD) (h0_:Rel K F H m S) (h1_:RL K F H m σ L) (h2_:f L S=some (d,S')) (h3_:∀v F' m' H',Stp F m H F' m' H'->Rel K F' H' m' S'->RP K F' H' d v->Q v H'):tVI f σ H Q
noncomputable def tV(f:EV):TE:=λM H Q=>tVI K f M H Q
inductive tQI(f:EB)(σ:L2.St)(H:Hp)(Q:Bool->Hp->Prop):Prop
 |mk (F:Aa) (m:List Addr) (L:Lc) (S:aD) (b:Bool) (S':aD) (h0_:Rel K F H m S) (h1_:RL K F H m σ L) (h2_:f L S=some (b,S')) (h3_:∀F' m' H',Stp F m H F' m' H'->Rel K F' H' m' S'->Q b H'):tQI f σ H Q
noncomputable def tQ(f:EB):TT:=λM H Q=>tQI K f M H Q
inductive tVsI(f:gf)(σ:L2.St)(H:Hp)(Q:List V->Hp->Prop):Prop
 |mk (F:Aa) (m:List Addr) (L:Lc) (S:aD) (ds:List P) (S':aD) (h0_:Rel K F H m S) (h1_:RL K F H m σ L) (h2_:f L S=some (ds,S')) (h3_:∀xs F' m' H',Stp F m H F' m' H'->Rel K F' H' m' S'->ci K F' H' ds xs->Q xs H'):tVsI f σ H Q
noncomputable def oN(f:gf):TA:=λM H Q=>tVsI K f M H Q
def J_(D:Ends)(F:Aa)(m:List Addr)(M:L2.St)(H:Hp):Fl->Prop
 | .nx=>D.nx M H
 | .bk=>D.bk M H
 | .ct=>D.ct M H
 | .rt d=>∀v,RD K F H m d v->D.rt v H
inductive tStI(f:ES)(D:Ends)(σ:L2.St)(H:Hp):Prop
 |mk (F:Aa) (m:List Addr) (L:Lc) (S:aD) (fl:Fl) (L':Lc) (S':aD) (h0_:Rel K F H m S) (h1_:RL K F H m σ L) (h2_:f L S=some (fl,L',S')) (h3_:∀σ' F' m' H',Stp F m H F' m' H'->Rel K F' H' m' S'->RL K F' H' m' σ' L'->J_ K D F' m' σ' H' fl):tStI f D σ H
noncomputable def kx(f:ES):TS:=λD M H=>tStI K f D M H
end
section
variable{K:FG}{F F':Aa}{H H':Hp}{m m':List Addr}{M:L2.St}{L:Lc}{S:aD}
theorem RL.mono(s:Stp F m H F' m' H')(h:RL K F H m M L):RL K F' H' m' M L:=⟨h.len,λi d e=>by obtain⟨v,x,r⟩:=h.at' i d e;exact⟨v,x,RD.mono s r⟩⟩
theorem RL.set (h:RL K F H m M L) (r:RD K F H m d v) (i:Nat):RL K F H m (M.set i (some v)) (L.set i (some d)):=⟨by rw [eY,eY];exact h.len,fun j e q=>by
 by_cases x:i=j
 .subst x;by_cases a:i < L.length
  .rw [dD a]at q;cases q;exact⟨v,dD (by rw[h.len];exact a),r⟩
  .rw [qJ (by rw[eY];lia)]at q;cases q
 .rw [a6 x]at q;rw[a6 x];exact h.at' j e q⟩
end
section
variable{X:Cx}{e:Expr}{C:Ab}{Q:Stmt}{sts:List Stmt}
theorem _root_.L2.PE.imp'(h:PE X e t)(i:∀M H Q,k M H Q->t M H Q):PE X e k:=λp s M H Q I q=>h p s M H Q I (i M H Q q)
theorem _root_.L2.PT.imp'(h:PT X e t)(i:∀M H Q,k M H Q->t M H Q):PT X e k:=λp s M H Q I q=>h p s M H Q I (i M H Q q)
theorem _root_.L2.PW.imp'(h:PW X e t)(i:∀M H Q,k M H Q->t M H Q):PW X e k:=λw p s M H Q I q=>h w p s M H Q I (i M H Q q)
theorem _root_.L2.PA.imp'(h:PA X C t)(i:∀M H Q,k M H Q->t M H Q):PA X C k:=λN p s M H Q I q=>h N p s M H Q I (i M H Q q)
theorem _root_.L2.PS.imp'(h:PS X Q t)(i:∀D M H,k D M H->t D M H):PS X Q k:=λp s M H D I q=>h p s M H D I (i D M H q)
theorem _root_.L2.mJ.imp'(h:mJ X sts t)(i:∀D M H,k D M H->t D M H):mJ X sts k:=λp s M H D I q=>h p s M H D I (i D M H q)
end
section
variable{X:Cx}{a b c e:Expr}{C:Ab}{u z:EV}{l:EE}{N:Pos}
theorem JF(h:PE X e (tE X.K l)):PE X e (tV X.K (vE l)):=h.imp' λM H Q z=>by obtain⟨F,m,L,S,d,O,r,x,q,k⟩:=z;obtain⟨n,a,f,b⟩:=ai q;refine⟨F,m,L,S,n,a,r,x,f,λv F' m' H' s c w=>?_⟩;obtain⟨B,u,t,_,p⟩:=nB 9 b c w;exact k v B m' H' (s.trans u) t p
theorem Fs(h:PE X e (tV X.K u)):PE X e (tE X.K (eV u)):=h.imp' λM H Q z=>by obtain⟨F,m,L,S,d,O,r,l,q,k⟩:=z;obtain⟨x,c,a,n⟩:=ai q;cases n;exact⟨F,m,L,S,x,O,r,l,a,λv F' m' H' s f b=>k v F' m' H' s f b⟩
set_option tactic.hygienic true in
theorem JE(i:Nat)(s:X.N[i]? = some x:=by rfl)(n:Fk X.env.scope x:=by first|exact Or.inl rfl|exact Or.inr (Or.inl rfl)|exact Or.inr (Or.inr rfl))(hd:(x == ("__debug__":Str))=false:=by decide)
  (h:(x == ("__classdict__":Str))=false:=by decide):PE X (.Name x N) (tE X.K (aa i)):=(y9 s n hd h).imp' λM H Q z=>by
 obtain⟨F,m,L,S,d,O,r,l,q,k⟩:=z;unfold aa at q;split at q
 .rename_i b e;cases q;obtain⟨v,a,f⟩:=l.at' i _ e;exact⟨v,a,k v F m H .refl r f⟩
 .cases q
theorem xC(h:PE X e (tC v))(r:∀F H,RP X.K F H d v):PE X e (tV X.K (vC d)):=h.imp' λM H Q z=>by obtain⟨F,m,L,S,a,O,x,l,q,k⟩:=z;cases q;exact k v F m H .refl x (r F H)
theorem JR {i h N}:PE X (.Constant (.int i) h N) (tV X.K (vC (.int i))):=xC D8 λ_ _=>rfl
theorem LZ {i h N}:PE X (.Constant (.bool i) h N) (tV X.K (vC (.bl i))):=xC G5 λ_ _=>rfl
theorem JL {h N}:PE X (.Constant .none h N) (tV X.K (vC .non)):=xC D7 λ_ _=>rfl
theorem JH {i h N}:PE X (.Constant (.str i) h N) (tV X.K (vC (.str i))):=xC D4 λ_ _=>rfl
inductive rPI(K:FG)(g:P->P->Option P)(x:V)(y:V)(H:Hp)(Q:VK):Prop
 |mk (F:Aa) (dx:P) (dy:P) (d:P) (h0_:(∀a,F a->H a≠none)) (h1_:RP K F H dx x) (h2_:RP K F H dy y) (h3_:g dx dy=some d) (h4_:∀v F' H',Grow F H F' H'->RP K F' H' d v->Q v H'):rPI K g x y H Q
noncomputable def rP(K:FG)(g:P->P->Option P):R2:=λx y H Q=>rPI K g x y H Q
def mK(X:Cx)(f:Value->Value->Sem Value)(g:P->P->Option P):Prop:=ip X f (rP X.K g)
theorem qQ(h:tV X.K (ab g u z) M H t):DF (rP X.K g) (tV X.K u) (tV X.K z) M H t:=by
 obtain⟨F,m,L,S,d,O,r,l,q,k⟩:=h;obtain⟨x,n,K,q⟩:=ai q;obtain⟨y,o,P,q⟩:=ai q;refine⟨F,m,L,S,x,n,r,l,K,λv Y A I c J D=>?_⟩;refine⟨Y,A,L,n,y,o,J,l.mono c,P,λa B C U p b E=>?_⟩;cases s:g x y with
 |none=>rw[s]at q;cases q
 |some e=>rw[s]at q;cases q;refine⟨B,x,y,_,b.ft,RP.mono p D,E,s,λw i j f G=>?_⟩;exact k w i C j (c.trans (p.trans f.stp)) (b.grow f) G
theorem LW(o:mK X (binaryOp k) g)(x:PE X a (tV X.K u))(e:PE X b (tV X.K z)):PE X (.BinOp a k b N) (tV X.K (ab g u z)):=
 (G4 o x e).imp' λ_ _ _ h=>qQ h
theorem JT(o:mK X (compareOp k) g)(x:PE X a (tV X.K u))(e:PE X b (tV X.K z))(m:behindInMarks k b=false):PE X (.Compare a [k] [b] N) (tV X.K (ab g u z)):=
 (wr o x e m).imp' λ_ _ _ h=>qQ h
theorem yE(h:tQ X.K (bV (ab g u z)) M H t):yF (DF (rP X.K g) (tV X.K u) (tV X.K z)) M H t:=by
 refine qQ ?_;obtain⟨F,m,L,S,d,O,r,l,q,k⟩:=h;obtain⟨x,n,e,q⟩:=ai q;cases x with
 |bl b=>cases q;exact⟨F,m,L,S,_,_,r,l,e,λv F' m' H' s a p=>⟨_,p,k F' m' H' s a⟩⟩
 |_=>cases q
theorem JC(o:mK X (compareOp k) g)(x:PE X a (tV X.K u))(e:PE X b (tV X.K z))(m:behindInMarks k b=false):PT X (.Compare a [k] [b] N) (tQ X.K (bV (ab g u z))):=
 (wm o x e m).imp' λ_ _ _ h=>yE h
variable{y qb:EB}{ck:Ab}
theorem F5(h:PT X a (tQ X.K y)):PW X (.BoolOp .And [a] N) (tQ X.K y):=Bn h
theorem JA(h:PT X a (tQ X.K y)):PW X (.BoolOp .Or [a] N) (tQ X.K y):=DR h
theorem JD(n:PT X a (tQ X.K y))(f:PW X (.BoolOp .And (b::ck) N) (tQ X.K qb)):PW X (.BoolOp .And (a::b::ck) N) (tQ X.K (fV y qb)):=
 (DS n f).imp' λM H Q z=>by
  obtain⟨F,m,L,S,d,O,r,l,q,k⟩:=z;obtain⟨c,h,e,q⟩:=ai q;refine⟨F,m,L,S,c,h,r,l,e,λF' m' H' s x=>?_⟩;cases c with
  |true=>rw[if_pos rfl]at q ⊢;exact⟨F',m',L,h,d,O,x,l.mono s,q,λB t U v p=>k B t U (s.trans v) p⟩
  |false=>rw[if_neg bO]at q ⊢;cases q;exact k F' m' H' s x
theorem LR(n:PT X a (tQ X.K y))(f:PW X (.BoolOp .Or (b::ck) N) (tQ X.K qb)):PW X (.BoolOp .Or (a::b::ck) N) (tQ X.K (ya y qb)):=
 (G0 n f).imp' λM H Q z=>by
  obtain⟨F,m,L,S,d,O,r,l,q,k⟩:=z;obtain⟨c,h,e,q⟩:=ai q;refine⟨F,m,L,S,c,h,r,l,e,λF' m' H' s x=>?_⟩;cases c with
  |false=>rw[if_neg bO]at q ⊢;exact⟨F',m',L,h,d,O,x,l.mono s,q,λB t U v p=>k B t U (s.trans v) p⟩
  |true=>rw[if_pos rfl]at q ⊢;cases q;exact k F' m' H' s x
theorem JB(h:PT X a (tQ X.K y)):PT X (.UnaryOp .Not a N) (tQ X.K (mI y)):=
 (DT h).imp' λM H Q z=>by obtain⟨F,m,L,S,d,O,r,l,q,k⟩:=z;obtain⟨c,n,e,q⟩:=ai q;cases q;exact⟨F,m,L,S,c,O,r,l,e,λF' m' H' s x=>k F' m' H' s x⟩
theorem Ge {k} (h:PE X a (tV X.K (vB y))):PE X (.BoolOp k [a] N) (tV X.K (vB y)):=D5 h
theorem sZ(h:tQ X.K y M H k)(x:∀b H',k b H'->t (.bl b) H'):tV X.K (vB y) M H t:=by obtain⟨F,m,L,S,d,O,r,l,q,a⟩:=h;exact⟨F,m,L,S,.bl d,O,r,l,by unfold vB;rw[q];rfl,λv F' m' H' s e p=>by rw[show v=.bl d from p];exact x _ _ (a F' m' H' s e)⟩
theorem wt(h:tV X.K (vB y) M H k):tQ X.K y M H λb H'=>k (.bl b) H':=by obtain⟨F,m,L,S,d,O,r,l,q,x⟩:=h;obtain⟨c,n,e,q⟩:=ai q;cases q;exact⟨F,m,L,S,c,O,r,l,e,λF' m' H' s a=>x _ F' m' H' s a rfl⟩
theorem JU(f:PE X a (tV X.K (vB y)))(t:PE X (.BoolOp .And (b::ck) N) (tV X.K (vB qb))):PE X (.BoolOp .And (a::b::ck) N) (tV X.K (vB (fV y qb))):=
 (D_ f t).imp' λM H Q h=>by
  obtain⟨F,m,L,S,d,O,r,l,q,k⟩:=wt h;obtain⟨c,x,n,q⟩:=ai q;refine sZ (k:=λc I=>if c=true then tV X.K (vB qb) M I Q else Q (.bl false) I) ⟨F,m,L,S,c,x,r,l,n,λF' m' H' s e=>?_⟩ λb H' q=>⟨b,rfl,q⟩;cases c with
  |true=>rw[if_pos rfl]at q ⊢;exact sZ (k:=λb U=>Q (.bl b) U) ⟨F',m',L,x,d,O,e,l.mono s,q,λB p U w v=>k B p U (s.trans w) v⟩ λ_ _ q=>q
  |false=>rw[if_neg bO]at q ⊢;cases q;exact k F' m' H' s e
theorem LU(f:PE X a (tV X.K (vB y)))(t:PE X (.BoolOp .Or (b::ck) N) (tV X.K (vB qb))):PE X (.BoolOp .Or (a::b::ck) N) (tV X.K (vB (ya y qb))):=
 (G3 f t).imp' λM H Q h=>by
  obtain⟨F,m,L,S,d,O,r,l,q,k⟩:=wt h;obtain⟨c,x,n,q⟩:=ai q;refine sZ (k:=λc I=>if c=true then Q (.bl true) I else tV X.K (vB qb) M I Q) ⟨F,m,L,S,c,x,r,l,n,λF' m' H' s e=>?_⟩ λb H' q=>⟨b,rfl,q⟩;cases c with
  |false=>rw[if_neg bO]at q ⊢;exact sZ (k:=λb U=>Q (.bl b) U) ⟨F',m',L,x,d,O,e,l.mono s,q,λB p U w v=>k B p U (s.trans w) v⟩ λ_ _ q=>q
  |true=>rw[if_pos rfl]at q ⊢;cases q;exact k F' m' H' s e
theorem JK(x:PE X a (tV X.K (vB y))):PE X (.UnaryOp .Not a N) (tV X.K (vB (mI y))):=
 (D6 x).imp' λM H Q h=>by obtain⟨F,m,L,S,d,O,r,l,q,k⟩:=wt h;obtain⟨c,f,e,q⟩:=ai q;cases q;exact sZ (k:=λb H'=>Q (.bl (!b)) H') ⟨F,m,L,S,c,O,r,l,e,λF' m' H' s n=>k F' m' H' s n⟩ λb H' q=>⟨b,rfl,q⟩
theorem vV(h:PE X e (tV X.K u)):PE X e (tV X.K (vB (bV u))):=h.imp' λM H Q h=>by
 obtain⟨F,m,L,S,d,O,r,l,q,k⟩:=wt h;obtain⟨x,f,a,q⟩:=ai q;cases x with
 |bl b=>cases q;exact⟨F,m,L,S,_,_,r,l,a,λv F' m' H' s n p=>by cases (show v=.bl d from p);exact k F' m' H' s n⟩
 |_=>cases q
theorem LY(g:PT X c (tQ X.K y))(p:PE X a (tV X.K u))(w:PE X b (tV X.K z)):PE X (.IfExp c a b N) (tV X.K (Cw y u z)):=
 (zf g p w).imp' λM H Q i=>by
  obtain⟨F,m,L,S,d,O,r,l,q,k⟩:=i;obtain⟨c,h,t,q⟩:=ai q;refine⟨F,m,L,S,c,h,r,l,t,λF' m' H' s f=>?_⟩;cases c with
  |true=>rw[if_pos rfl]at q ⊢;exact⟨F',m',L,h,d,O,f,l.mono s,q,λv B x U n e=>k v B x U (s.trans n) e⟩
  |false=>rw[if_neg bO]at q ⊢;exact⟨F',m',L,h,d,O,f,l.mono s,q,λv B x U n e=>k v B x U (s.trans n) e⟩
variable{fs:gf}
theorem Fj:PA X [] (oN X.K aO):=iF.imp' λM H Q h=>by obtain⟨F,m,L,S,d,O,r,l,q,k⟩:=h;cases q;exact k [] F m H .refl r rfl
theorem Dc(c:PE X e (tV X.K u))(t:PA X C (oN X.K fs))(p:starEach (e::C) X.env=(false,eval e X.env)::starEach C X.env:=by rfl):PA X (e::C) (oN X.K (aN u fs)):=
 (gj c t p).imp' λM H Q z=>by obtain⟨F,m,L,S,d,O,r,l,q,k⟩:=z;obtain⟨x,h,f,q⟩:=ai q;obtain⟨xs,K,b,q⟩:=ai q;cases q;refine⟨F,m,L,S,x,h,r,l,f,λv Y w I s y i=>?_⟩;refine⟨Y,w,L,h,xs,O,y,l.mono s,b,λn B g U a o j=>?_⟩;exact k (v::n) B g U (s.trans a) o ⟨v,n,rfl,RP.mono a i,j⟩
noncomputable def few(xs:List q):Bool:=decide (xs.length≤1000000)
theorem kh{q:Type}{xs:List q}(h:few xs=true):xs.length≤sizeLine:=aM (of_decide_eq_true h) (by decide)
def aA(a:gf):EV:=λL S=>aG (a L S) λxs h=>if few xs=true then some (.tup xs,h) else none
def aQ(a:gf):EV:=λL S=>aG (a L S) λxs h=>if few xs=true then some (.lst xs,h) else none
def cv(a:gf):EE:=λL S=>aG (a L S) λxs h=>if few xs=true then some (.ref h.length,h++[.lst (xs.map .p)]) else none
set_option tactic.hygienic true in
theorem JG {t} (h:PA X C (oN X.K fs)):PE X (.Tuple C t N) (tV X.K (aA fs)):=(qY h).imp' λM H Q z=>by
 obtain⟨F,m,L,S,d,O,r,l,q,k⟩:=z;obtain⟨xs,c,e,q⟩:=ai q;split at q
 .rename_i f;cases q;refine⟨F,m,L,S,xs,O,r,l,e,λv Y s I b n a=>⟨by rw[<- a.length];exact kh f,λp x=>?_⟩⟩;exact k (.ref p) Y s _ (b.trans (b9 x).stp) (n.grow (b9 x)) (.newTup x a)
 .cases q
set_option tactic.hygienic true in
theorem JN(h:PA X C (oN X.K fs)):PE X (.List C N) (tV X.K (aQ fs)):=(zd h).imp' λM H Q z=>by
 obtain⟨F,m,L,S,d,O,r,l,q,k⟩:=z;obtain⟨xs,c,e,q⟩:=ai q;split at q
 .rename_i f;cases q;refine⟨F,m,L,S,xs,O,r,l,e,λv Y s I b n a=>⟨by rw[<- a.length];exact kh f,λp x=>?_⟩⟩;exact k (.ref p) _ s _ (b.trans (bQ x).stp) (n.grow (bQ x)) (.newLst x a)
 .cases q
set_option tactic.hygienic true in
theorem Cu(h:PA X C (oN X.K fs)):PE X (.List C N) (tE X.K (cv fs)):=(zd h).imp' λM H Q z=>by
 obtain⟨F,m,L,S,d,O,r,l,q,k⟩:=z;obtain⟨xs,f,b,q⟩:=ai q;split at q
 .rename_i c;cases q;refine⟨F,m,L,S,xs,f,r,l,b,λv Y x I t s e=>⟨by rw[<- e.length];exact kh c,λp a=>?_⟩⟩;have n:Stp Y x I Y (x++[p]) (cg I p (.lst v)):=gh a;refine k (.ref p) Y (x++[p]) _ (t.trans n) (s.own a ⟨v,aJ,dm.ofP (ci.mono n e)⟩) ⟨p,rfl,?_⟩;rw[<- s.len,fB (Nat.le_refl _)];simp
 .cases q
def rC(K:FG)(g:List P->Option P):List V->Hp->VK->Prop:=λxs H Q=>∃F s d,(∀a,F a->H a≠none)/\ci K F H s xs/\g s=some d/\∀v F' H',Grow F H F' H'->RP K F' H' d v->Q v H'
theorem u0(h:tV X.K (ae g fs) M H t):oN X.K fs M H λs I=>rC X.K g s I t:=by
 obtain⟨F,m,L,S,d,O,r,l,q,k⟩:=h;obtain⟨xs,w,n,q⟩:=ai q;cases e:g xs with
 |none=>rw[e]at q;cases q
 |some z=>rw[e]at q;cases q;exact⟨F,m,L,S,xs,_,r,l,n,λs Y f I c a b=>⟨Y,xs,_,a.ft,b,e,λv B U x p=>k v B f U (c.trans x.stp) (a.grow x) p⟩⟩
theorem Du{x:Str}{p:Pos}{id:String}{g:List P->Option P}(c:eF X (.builtin id) (rC X.K g))(n:Gl X x)(m:X.mg x=none)(v:bootBuiltins x=some (.builtin id))(a:PA X (e::C) (oN X.K fs))(k:x≠"__name__":=by decide)(d:(x == ("__debug__":Str))=false:=by decide)
  (s:starEach (e::C) X.env=(false,eval e X.env)::starEach C X.env:=by rfl) (l:(backTo N (starEach C X.env)).any (·.1)=false:=by rfl):PE X (.Call (.Name x p) (e::C) [] N) (tV X.K (ae g fs)):=
 (nM c n m v a k d s l).imp' λ_ _ _ h=>u0 h
theorem uV(c:eF X (.type k) (rC X.K g))(n:Gl X x)(m:X.mg x=none)(v:bootBuiltins x=some (.type k))(a:PA X (e::C) (oN X.K fs))(f:x≠"__name__":=by decide)(d:(x == ("__debug__":Str))=false:=by decide)
  (s:starEach (e::C) X.env=(false,eval e X.env)::starEach C X.env:=by rfl) (l:(backTo N (starEach C X.env)).any (·.1)=false:=by rfl):PE X (.Call (.Name x p) (e::C) [] N) (tV X.K (ae g fs)):=
 (lA c n m v a f d s l).imp' λ_ _ _ h=>u0 h
noncomputable def IH(K:FG)(g:List P->Option P):Sp:=λv H Q _=>rC K g v H Q
theorem Gd(G:FnOk X.prog X.w X.K X.mg X.base qc k f t ps (IH X.K g))(j:Room k X.A)(w:Gl X x)(i:X.mg x=some (.ref f))(u:PySem.W.keepIn X.K (.ref f)=true)(c:Binds X.K t ps [])
  (b:PA X (e::C) (oN X.K fs)) (d:(x == ("__debug__":Str))=false:=by decide) (v:starEach (e::C) X.env=(false,eval e X.env)::starEach C X.env:=by rfl) (a:(backTo N (starEach C X.env)).any (·.1)=false:=by rfl) :
  PE X (.Call (.Name x p) (e::C) [] N) (tV X.K (ae g fs)):=
 (qZ G j w i u c .nil pI b d v a).imp' λM H Q h=>by obtain⟨F,m,L,S,n,O,r,l,q,k⟩:=u0 h;exact⟨F,m,L,S,n,O,r,l,q,λxs F' m' H' s y p=>by show IH X.K g (xs++[]) H' Q E0;rw[List.append_nil];exact k xs F' m' H' s y p⟩
end
section
variable{X:Cx}{a b e:Expr}{Q:Stmt}{ck bs cs:List Stmt}{f g:ES}{l:EE}{y:EB}{N:Pos}
theorem Jy:mJ X [] (kx X.K eO):=Bp.imp' λD M H h=>by obtain⟨F,m,L,S,f,x,O,r,l,q,k⟩:=h;cases q;exact k M F m H .refl r l
theorem FZ(j:PS X Q (kx X.K f))(y:mJ X ck (kx X.K g)):mJ X (Q::ck) (kx X.K (af f g)):=(y0 j y).imp' λD M H z=>by
 obtain⟨F,m,L,S,w,v,O,r,l,q,k⟩:=z;cases e:f L S with
 |none=>rw[show af f g L S=none by unfold af;rw[e]]at q;cases q
 |some x=>
  obtain⟨u,t,p⟩:=x;cases u with
  |nx=>
   have n:g t p=some (w,v,O):=by have:=q;unfold af at this;rw[e]at this;exact this
   exact⟨F,m,L,S,.nx,t,p,r,l,e,λh Y s I c b a=>⟨Y,s,t,p,w,v,O,b,a,n,λi B K U A P o=>k i B K U (c.trans A) P o⟩⟩
  |rt d=>
   have n:some (Fl.rt d,t,p)=some (w,v,O):=by have:=q;unfold af at this;rw[e]at this;exact this
   cases n;exact⟨F,m,L,S,_,_,_,r,l,e,λh Y s I c b a=>k h Y s I c b a⟩
  |bk=>
   have n:some (Fl.bk,t,p)=some (w,v,O):=by have:=q;unfold af at this;rw[e]at this;exact this
   cases n;exact⟨F,m,L,S,_,_,_,r,l,e,λh Y s I c b a=>k h Y s I c b a⟩
  |ct=>
   have n:some (Fl.ct,t,p)=some (w,v,O):=by have:=q;unfold af at this;rw[e]at this;exact this
   cases n;exact⟨F,m,L,S,_,_,_,r,l,e,λh Y s I c b a=>k h Y s I c b a⟩
theorem Jx(h:PS X Q (kx X.K f)):mJ X [Q] (kx X.K f):=Bo h
theorem Jv(h:PE X e (tE X.K l)):PS X (.Return (some e) N) (kx X.K (aH l)):=(DV h).imp' λD M H z=>by obtain⟨F,m,L,S,c,f,O,r,x,q,k⟩:=z;obtain⟨d,b,a,q⟩:=ai q;cases q;exact⟨F,m,L,S,d,O,r,x,a,λv F' m' H' s n p=>k M F' m' H' s n (x.mono s) v p⟩
theorem FY(h:PE X e (tE X.K l))(n:swapsWith e none N.line X.env=pure false:=by rfl):PS X (.Expr e N) (kx X.K (bP l)):=(Bq h n).imp' λD M H z=>by obtain⟨F,m,L,S,t,b,O,r,x,q,k⟩:=z;obtain⟨d,c,a,q⟩:=ai q;cases q;exact⟨F,m,L,S,d,O,r,x,a,λv F' m' H' s f p=>k M F' m' H' s f (x.mono s)⟩
theorem AR(i:Nat)(f:X.N.Nodup)(h:PE X e (tE X.K l))(c:X.N[i]? = some x:=by rfl)(u:Loc X.env.scope x:=by first|exact Or.inl rfl|exact Or.inr rfl)(w:swapsWith e (some (.Name x t)) N.line X.env=pure false:=by rfl)
  (b:X.fn x=true\/X.env.scope.names.lookup x=some .local:=by first|exact .inl rfl|exact .inr rfl|assumption):PS X (.Assign [.Name x t] e N) (kx X.K (am i l)):=
 (DU f c u h w b).imp' λD M H z=>by obtain⟨F,m,L,S,o,j,O,r,a,q,k⟩:=z;obtain⟨d,y,n,q⟩:=ai q;cases q;exact⟨F,m,L,S,d,O,r,a,n,λv F' m' H' s g p=>k (M.set i (some v)) F' m' H' s g ((a.mono s).set p i)⟩
theorem LP(i:PT X c (tQ X.K y))(w:mJ X bs (kx X.K f))(u:mJ X cs (kx X.K g)):PS X (.If c bs cs N) (kx X.K (d_ y f g)):=(G1 i w u).imp' λD M H z=>by
 obtain⟨F,m,L,S,p,t,O,r,l,q,k⟩:=z;obtain⟨c,x,d,q⟩:=ai q;refine⟨F,m,L,S,c,x,r,l,d,λF' m' H' s v=>?_⟩;cases c with
 |true=>rw[if_pos rfl]at q ⊢;exact⟨F',m',L,x,p,t,O,v,l.mono s,q,λh B e U b n a=>k h B e U (s.trans b) n a⟩
 |false=>rw[if_neg bO]at q ⊢;exact⟨F',m',L,x,p,t,O,v,l.mono s,q,λh B e U b n a=>k h B e U (s.trans b) n a⟩
theorem Dh:PS X Q (kx X.K nG):=y2.imp' λD M H h=>by obtain⟨F,m,L,S,f,x,O,r,l,q,k⟩:=h;cases q
theorem LQ:PS X (.Continue N) (kx X.K IM):=tu.imp' λD M H h=>by obtain⟨F,m,L,S,f,x,O,r,l,q,k⟩:=h;cases q;exact k M F m H .refl r l
inductive gTI(K:FG)(g:iU)(x:V)(σ:L2.St)(H:Hp)(Q:L2.St->Hp->Prop):Prop
 |mk (F:Aa) (m:List Addr) (L:Lc) (v:P) (L':Lc) (h0_:RL K F H m σ L) (h1_:RP K F H v x) (h2_:g v L=some L') (h3_:∀σ',RL K F H m σ' L'->Q σ' H):gTI K g x σ H Q
noncomputable def gT(K:FG)(g:iU):TG:=λx M H Q=>gTI K g x M H Q
theorem _root_.L2.PG.imp'(h:PG X J t)(i:∀v M H Q,k v M H Q->t v M H Q):PG X J k:=λp s M H v u Q I r q=>h p s M H v u Q I r (i v M H Q q)
theorem EY(i:Nat)(h:X.N.Nodup)(a:X.N[i]? = some x:=by rfl)(e:Loc X.env.scope x:=by first|exact Or.inl rfl|exact Or.inr rfl)(f:X.fn x=true\/X.env.scope.names.lookup x=some .local:=by first|exact .inl rfl|exact .inr rfl|assumption) :
  PG X (.Name x N) (gT X.K (ag i)):=(By h a e f).imp' λv M H Q z=>by
 obtain⟨F,m,L,d,s,l,p,q,k⟩:=z;cases q;exact k _ (l.set (d:=.p d) p i)
def FS(K:FG)(J:It)(s:List P)(F:Aa)(m:List Addr)(H:Hp):Prop:=∀B e U,Stp F m H B e U ->
 (∀(i:Nat) v,s[i]? = some v->J.go i U/\∀x h,J.yld i U x h->∃a,Grow B U a h/\RP K a h v x)/\J.stop s.length U
inductive tII(K:FG)(f:gf)(σ:L2.St)(H:Hp)(R:It->Hp->Prop):Prop
 |mk (F:Aa) (m:List Addr) (L:Lc) (S:aD) (vs:List P) (S':aD) (h0_:Rel K F H m S) (h1_:RL K F H m σ L) (h2_:f L S=some (vs,S')) (h3_:∀J F' m' H',Stp F m H F' m' H'->Rel K F' H' m' S'->FS K J vs F' m' H'->R J H'):tII K f σ H R
noncomputable def tI(K:FG)(f:gf):TI:=λM H R=>tII K f M H R
theorem Jz{tg iter:Expr}{fi:gf}{g:iU}{b:List Stmt}{z:ES}(hp:PassesOwn (model X.prog X.w) X.A X.env X.xe)(hc:X.calm=true)(hi:PI X tg iter (tI X.K fi))(hg:PG X tg (gT X.K g))(hb:mJ X b (kx X.K z))
  (hs:∀x,foldedSetIterable iter X.env x=pure x:=by intro _;rfl):PS X (.For tg iter b [] N) (kx X.K (b6 fi g z)):=
 (DW hp hc hi hg hb hs).imp' λD M H hz=>by
  obtain⟨F,m,L,S,fl,L',O,r,l,q,k⟩:=hz;obtain⟨v,S1,e1,q⟩:=ai q;refine⟨F,m,L,S,v,S1,r,l,e1,fun J Y A I G r1 it=>?_⟩;refine⟨fun i n c U=>n=v.length-i/\i≤v.length/\∃B s L2 f,Stp Y A I B s U/\Rel X.K B U s f/\RL X.K B U s c L2/\aR g z (v.drop i) L2 f=some (fl,L',O),
   ⟨v.length,rfl,Nat.zero_le _,Y,A,L,S1,.refl,r1,l.mono G,by rw[mN];exact q⟩,?_⟩
  rintro i n c U ⟨rfl,hi,B,s,L2,f,s2,r2,l2,a⟩;obtain⟨go,o⟩:=it B s U s2;by_cases t:i < v.length
  .right;have hv:v[i]? = some v[i]:=by simp[t]
   rw[List.drop_eq_getElem_cons t]at a;obtain⟨hgo,hy⟩:=go i _ hv;refine⟨hgo,λu p=>∃n',n' < v.length-i/\(n'=v.length-(i+1)/\i+1≤v.length/\∃B s L2 f,Stp Y A I B s p/\Rel X.K B p s f/\RL X.K B p s u L2/\aR g z (v.drop (i+1)) L2 f=some (fl,L',O)),λ_ _ h=>h,λx p y=>?_⟩;obtain⟨T,gr,p3⟩:=hy x p y;unfold aR at a;cases eg:g v[i] L2 with
   |none=>rw[eg]at a;cases a
   |some V=>
    rw[eg]at a;dsimp only at a;refine⟨T,s,L2,v[i],V,l2.mono gr.stp,p3,eg,λu l3=>?_⟩;have Q:Stp Y A I T s p:=s2.trans gr.stp;have r3:=r2.grow gr;cases eb:z V f with
    |none=>rw[eb]at a;cases a
    |some h=>
     obtain⟨w,W,Z⟩:=h;rw[eb]at a;refine⟨T,s,V,f,w,W,Z,r3,l3,eb,λj K C H4 R E P=>?_⟩;cases w with
     |nx=>exact⟨v.length-(i+1),by lia,rfl,t,K,C,W,Z,Q.trans R,E,P,a⟩
     |ct=>exact⟨v.length-(i+1),by lia,rfl,t,K,C,W,Z,Q.trans R,E,P,a⟩
     |bk=>cases a;exact k j K C H4 (G.trans (Q.trans R)) E P
     |rt d=>cases a;exact k j K C H4 (G.trans (Q.trans R)) E P
  .left;have e:i=v.length:=by lia
   subst e;rw[qw]at a;cases a;exact⟨o,k c B s U (G.trans s2) r2 l2⟩
end
theorem Stp.toGrow(s:Stp F [] H F' m' H')(f:∀a,F' a->H' a≠none):Grow F H F' H':=
 ⟨fun b o h=>s.oth b o h (by simp),s.frz,fun b h=>by
  rcases s.nf b h with q|q|q
  .exact .inl q
  .exact .inr ⟨q,f b h⟩
  .simp at q⟩
theorem jN{q:Prop}{β:Type}{d:β}(h:(none:Option β)=some d):q:=nomatch h
noncomputable def gu(n:Nat):Bool:=decide (n≤1000000)
theorem g9(h:gu n=true):n≤sizeLine:=aM (of_decide_eq_true h) (by decide)
section
variable{X:Cx}
def sF:P->P->Option P
 | .int i,.int j=>some (.int (i+j))
 | .str x,.str y=>if gu (x.length+y.length)=true then some (.str (x++y)) else none
 | .tup xs,.tup s=>if (!xs.isEmpty && gu (xs.length+s.length))=true then some (.tup (xs++s)) else none
 | .lst xs,.lst s=>if gu (xs.length+s.length)=true then some (.lst (xs++s)) else none
 |_,_=>none
set_option tactic.hygienic true in
theorem Hi:mK X (binaryOp .Add) sF:=by
 intro n s M H x y v u Q I l o h;obtain⟨F,E,t,d,J,w,g,q,k⟩:=h;cases E with
 |int i=>
  cases t with
  |int j=>cases q;cases (show x=.int i from w);cases (show y=.int j from g);exact Ef n s M H _ _ v u Q I l o ⟨i,j,rfl,rfl,k _ F H .refl rfl⟩
  |_=>exact jN q
 |str i=>
  cases t with
  |str j=>
   simp only[sF]at q;split at q
   .rename_i c;cases q;cases (show x=.str i from w);cases (show y=.str j from g);exact va n s M H _ _ v u Q I l o ⟨i,j,rfl,rfl,g9 c,k _ F H .refl rfl⟩
   .cases q
  |_=>exact jN q
 |tup A=>
  cases t with
  |tup C=>
   simp only[sF]at q;split at q
   .rename_i c;rw[Bool.and_eq_true]at c;cases q;obtain⟨a,xs,rfl,S,r⟩:=w;obtain⟨b,P,rfl,K,m⟩:=g;have B:=r.length;have D:=m.length;have G:xs≠[]:=λz=>by
     subst z;have:A=[]:=j' B;subst this;simp at c
    refine BH n s M H _ _ v u Q I l o ⟨a,b,xs,P,rfl,rfl,S.sq,K.sq,G,by rw[<- B,<- D];exact g9 c.2,λz=>?_,λ_ p f=>?_⟩
    .subst z;have e:C=[]:=j' D;subst e;refine k _ F H .refl ?_;rw[List.append_nil];exact⟨a,xs,rfl,S,r⟩
    .exact k _ F _ (b9 f) (.newTup f (r.append m))
   .cases q
  |_=>exact jN q
 |lst A=>
  cases t with
  |lst C=>
   simp only[sF]at q;split at q
   .rename_i c;cases q;obtain⟨a,xs,rfl,S,r⟩:=w;obtain⟨b,P,rfl,K,m⟩:=g;exact Ee n s M H _ _ v u Q I l o ⟨a,b,xs,P,rfl,rfl,S.2,K.2,by rw[<- r.length,<- m.length];exact g9 c,λp f=>k _ _ _ (bQ f) (.newLst f (r.append m))⟩
   .cases q
  |_=>exact jN q
 |_=>exact jN q
noncomputable def AO(c:Int->Int->Bool)(g:Int->Int->P):P->P->Option P
 | .int i,.int j=>if c i j=true then some (g i j) else none
 |_,_=>none
@[simp] theorem Ce(c:Int->Int->Bool)(g:Int->Int->P)(i j:Int):AO c g (.int i) (.int j)=if c i j=true then some (g i j) else none:=rfl
set_option tactic.hygienic true in
theorem tz{f:Value->Value->Sem Value}{C:Int->Int->Prop}{a:Int->Int->V}{c:Int->Int->Bool}{g:Int->Int->P}(o:ip X f (rI C a))(b:∀i j,c i j=true->C i j)(m:∀K F H i j,RP K F H (g i j) (a i j)):mK X f (AO c g):=by
 intro p s M H x y v u Q I l z h;obtain⟨F,e,n,d,S,t,w,q,k⟩:=h;cases e with
 |int i=>
  cases n with
  |int j=>
   rw[Ce]at q;split at q
   .rename_i r;cases q;cases (show x=.int i from t);cases (show y=.int j from w);exact o p s M H _ _ v u Q I l z ⟨i,j,rfl,rfl,b i j r,k _ F H .refl (m _ _ _ _ _)⟩
   .cases q
  |_=>exact jN q
 |_=>exact jN q
theorem nI(h:ip X f (Bk k)):ip X f (rI (λ_ _=>True) k):=λp s M H x y v u Q I r n ⟨i,j,e,a,_,q⟩=>h p s M H x y v u Q I r n ⟨i,j,e,a,q⟩
noncomputable abbrev yp:Int->Int->Bool:=λ_ _=>true
abbrev sD:=AO yp λi j=>.int (i-j)
theorem G_:mK X (binaryOp .Sub) sD:=tz (nI D') (λ_ _ _=>trivial) λ_ _ _ _ _=>rfl
noncomputable abbrev D0:Int->Int->Bool:=λ_ j=>decide (0 < j) && decide (j < 1152921504606846976)
theorem zq:ip X (binaryOp .FloorDiv) (rI (λ_ j=>0 < j/\j < 1152921504606846976) λi j=>.int (i / j)):=IN λi j _ _ _ _ _ h q=>by have a:(0:Int) < j:=h.1;have e:j < 1152921504606846976:=h.2;have x:j.natAbs.log2 < 9000:=cj ((Nat.log2_lt (by lia)).mpr (show j.natAbs < 2 ^ 60 by lia)) (by decide);exact floordiv_int (by lia) (by rw[Int.fdiv_eq_ediv_of_nonneg i (by lia)];exact q) (.inl (PyProof.noPylong_of_log2 x))
abbrev aE:=AO D0 λi j=>.int (i / j)
theorem BI:mK X (binaryOp .FloorDiv) aE:=tz zq (λi j h=>by rw[Bool.and_eq_true]at h;exact⟨of_decide_eq_true h.1,of_decide_eq_true h.2⟩) λ_ _ _ _ _=>rfl
abbrev aZ:=AO (λ_ j=>decide (0 < j)) λi j=>.int (i % j)
theorem Hc:mK X (binaryOp .Mod) aZ:=tz Ec (λi j h=>of_decide_eq_true h) λ_ _ _ _ _=>rfl
abbrev Cd:=AO (λi j=>decide (0≤j) && decide (j≤1000000) && decide (i.natAbs < 2 ^ 64)) λi j=>.int (i ^ j.toNat)
theorem G':mK X (binaryOp .Pow) Cd:=tz Eb (λi j h=>by simp only[Bool.and_eq_true]at h;exact⟨of_decide_eq_true h.1.1,of_decide_eq_true h.1.2,of_decide_eq_true h.2⟩) λ_ _ _ _ _=>rfl
abbrev AN:=AO yp λi j=>.bl (decide (i < j))
theorem Kn:mK X (compareOp .Lt) AN:=tz (nI G6) (λ_ _ _=>trivial) λ_ _ _ _ _=>rfl
abbrev Ic:=AO yp λi j=>.bl (decide (i≤j))
theorem Ko:mK X (compareOp .LtE) Ic:=tz (nI G7) (λ_ _ _=>trivial) λ_ _ _ _ _=>rfl
abbrev FM:=AO yp λi j=>.bl (decide (j < i))
theorem Kq:mK X (compareOp .Gt) FM:=tz (nI G8) (λ_ _ _=>trivial) λ_ _ _ _ _=>rfl
abbrev Ie:=AO yp λi j=>.bl (decide (j≤i))
theorem Kr:mK X (compareOp .GtE) Ie:=tz (nI G9) (λ_ _ _=>trivial) λ_ _ _ _ _=>rfl
noncomputable def fx(i j:Int):Bool:=decide (i.natAbs.log2+j.natAbs.log2 < 100000000)
theorem zB{i j:Int}(h:fx i j=true):IntMulOk i j:=by
 have a:i.natAbs.log2+j.natAbs.log2 < 100000000:=of_decide_eq_true h;have b:∀x:Int,Builtin.Int.intBits x≤x.natAbs.log2+1:=λx=>by
  unfold Builtin.Int.intBits;split
  .exact Nat.zero_le _
  .exact Nat.le_refl _
 exact IntMulOk.of_le (b i) (b j) (by lia)
theorem BG:ip X (binaryOp .Mult) (rI (λi j=>IntMulOk i j) λi j=>.int (i * j)):=IN λ_ _ _ _ _ _ _ h q=>mul_int q h
noncomputable def dG(x:Str)(n:Nat):Str:=⟨(List.replicate n x.cps).foldl (·++·) #[]⟩
theorem u3(x:Str):dG x 1=x:=by unfold dG;cases x;simp
theorem xT(n:Nat):(List.replicate n (#[]:Array Nat)).foldl (·++·) #[]=#[]:=by
 induction n with
 |zero=>rfl
 |succ n i=>rw[dw,gD];simpa using i
theorem qS(x:Str)(n:Nat)(h:x.length=0):dG x n=x:=by have e:x.cps=#[]:=Array.eq_empty_of_size_eq_zero (by simpa[Str.length] using h);unfold dG;cases x;simp only at e;subst e;rw[xT]
theorem vp(a:Array Nat)(n:Nat):∀b:Array Nat,((List.replicate n a).foldl (·++·) b).size=b.size+n * a.size:=by
 induction n with
 |zero=>intro b;simp
 |succ n i=>intro b;rw[dw,gD,i,Array.size_append,Nat.succ_mul];lia
theorem jL(x:Str)(n:Nat):(dG x n).length=n * x.length:=by unfold dG Str.length;simp only;rw[vp];simp
def sE:P->P->Option P
 | .int i,.int j=>if fx i j=true then some (.int (i * j)) else none
 | .str x,.int n=>if (gu (n.toNat * x.length) && decide (n.natAbs < 1000000))=true then some (.str (dG x n.toNat)) else none
 | .lst xs,.int n=>if (gu (xs.length * n.toNat) && decide (n.natAbs < 1000000))=true then some (.lst (List.replicate n.toNat xs).flatten) else none
 |_,_=>none
theorem ci.rep(h:ci K F H r xs):∀k:Nat,ci K F H (List.replicate k r).flatten (List.replicate k xs).flatten
 |0=>rfl
 |k+1=>by rw[dw,dw,hG,hG];exact h.append (ci.rep h k)
set_option tactic.hygienic true in
theorem Hb:mK X (binaryOp .Mult) sE:=by
 intro r s M H x y v u Q I o S h;obtain⟨F,B,w,d,L,g,l,q,k⟩:=h;cases B with
 |int i=>
  cases w with
  |int j=>
   simp only[sE]at q;split at q
   .rename_i c;cases q;cases (show x=.int i from g);cases (show y=.int j from l);exact BG r s M H _ _ v u Q I o S ⟨i,j,rfl,rfl,zB c,k _ F H .refl rfl⟩
   .cases q
  |_=>exact jN q
 |str i=>
  cases w with
  |int n=>
   simp only[sE]at q;split at q
   .rename_i c;rw[Bool.and_eq_true]at c;have E:=of_decide_eq_true c.2;have N:n.toNat * i.length≤1000000:=of_decide_eq_true c.1;have R:=jb;have T:(1000000:Nat)≤sizeLine:=by decide
    cases q;cases (show x=.str i from g);cases (show y=.int n from l);obtain⟨t,rfl⟩:=o;obtain⟨U,rfl⟩:=S;refine PySem.P.mul_str (by have C:decide (n < -(2 ^ 63:Int))=false:=br (by lia);have D:decide (n ≥ 2 ^ 63)=false:=br (by lia);rw[C,D];rfl) (λa b=>?_) (λa b=>?_) ?_
    .intro z;have O:((i.length:Nat):Int)≤(2 ^ 63-1) / n:=by
      refine(Int.le_ediv_iff_mul_le (by lia)).mpr ?_;have e:((i.length:Nat):Int) * n=((n.toNat * i.length:Nat):Int):=by rw[Int.natCast_mul,Int.toNat_of_nonneg (by lia),Int.mul_comm]
      rw[e];lia
     lia
    .unfold Builtin.Str.tooLong;first
      |exact br (by rw[mM];lia)
      |(rw[mM];exact br (by lia))
    .have f:Q (.str (dG i n.toNat)) H:=k _ F H .refl rfl;by_cases K:n < 1
     .rw [if_pos K];have e:n.toNat=0:=by lia
      rw[e]at f;exact⟨by decide,⟨.str Str.empty,H,I.tok _,⟨_,rfl⟩,f⟩⟩
     .rw [if_neg K];by_cases m:(n == 1 ||i.length == 0)=true
      .rw [if_pos m];rw[i8]at m;have e:dG i n.toNat=i:=by
        rcases m with m|m
        .have:n=1:=by simpa using m
         subst this;exact u3 i
        .exact qS i _ (by simpa using m)
       rw[e]at f;exact⟨.str i,H,I,⟨_,rfl⟩,f⟩
      .rw [if_neg m];refine⟨?_,⟨.str (dG i n.toNat),H,I.tok _,⟨_,rfl⟩,f⟩⟩;have:=jL i n.toNat
       unfold dG at this;rw[this];lia
   .cases q
  |_=>exact jN q
 |lst J=>
  cases w with
  |int n=>
   simp only[sE]at q;split at q
   .rename_i c;rw[Bool.and_eq_true]at c;have E:=of_decide_eq_true c.2;cases q;obtain⟨a,xs,rfl,G,A⟩:=g;cases (show y=.int n from l);exact Ea r s M H _ _ v u Q I o S ⟨a,n,xs,rfl,rfl,G.2,by lia,by lia,by rw[<- A.length];exact g9 c.1,λp P=>k _ _ _ (bQ P) (.newLst P (A.rep _))⟩
   .cases q
  |_=>exact jN q
 |_=>exact jN q
noncomputable def KY:P->P->Option P
 | .int i,.int j=>some (.bl (decide (i=j)))
 | .str x,.str y=>some (.bl (decide (x=y)))
 | .bl a,.bl b=>some (.bl (decide (a=b)))
 |_,_=>none
noncomputable def dNe:P->P->Option P
 | .int i,.int j=>some (.bl (!decide (i=j)))
 | .str x,.str y=>some (.bl (!decide (x=y)))
 | .bl a,.bl b=>some (.bl (!decide (a=b)))
 |_,_=>none
theorem mj{i j:Int}:decide (V.int i=V.int j)=decide (i=j):=by
 by_cases h:i=j
 .subst h;simp
 .rw [br h,br λz=>h (V.int.inj z)]
theorem mi:decide (V.str i=V.str k)=decide (i=k):=by
 by_cases h:i=k
 .subst h;simp
 .rw [br h,br λz=>h (V.str.inj z)]
theorem ou:decide (V.bl i=V.bl k)=decide (i=k):=by
 by_cases h:i=k
 .subst h;simp
 .rw [br h,br λz=>h (V.bl.inj z)]
theorem Ks:mK X (compareOp .Eq) KY:=by
 intro p s M H x y v u Q I r f h;obtain⟨F,b,a,d,t,e,n,q,k⟩:=h;cases b with
 |int i=>
  cases a with
  |int j=>cases q;cases (show x=.int i from e);cases (show y=.int j from n);exact zr p s M H _ _ v u Q I r f ⟨rfl,by rw[mj];exact k _ F H .refl rfl⟩
  |_=>exact jN q
 |str i=>
  cases a with
  |str j=>cases q;cases (show x=.str i from e);cases (show y=.str j from n);exact zr p s M H _ _ v u Q I r f ⟨rfl,by rw[mi];exact k _ F H .refl rfl⟩
  |_=>exact jN q
 |bl i=>
  cases a with
  |bl j=>cases q;cases (show x=.bl i from e);cases (show y=.bl j from n);exact zr p s M H _ _ v u Q I r f ⟨rfl,by rw[ou];exact k _ F H .refl rfl⟩
  |_=>exact jN q
 |_=>exact jN q
theorem Km:mK X (compareOp .NotEq) dNe:=by
 intro p s M H x y v u Q I r f h;obtain⟨F,b,a,d,t,e,n,q,k⟩:=h;cases b with
 |int i=>
  cases a with
  |int j=>cases q;cases (show x=.int i from e);cases (show y=.int j from n);exact zp p s M H _ _ v u Q I r f ⟨rfl,by rw[mj];exact k _ F H .refl rfl⟩
  |_=>exact jN q
 |str i=>
  cases a with
  |str j=>cases q;cases (show x=.str i from e);cases (show y=.str j from n);exact zp p s M H _ _ v u Q I r f ⟨rfl,by rw[mi];exact k _ F H .refl rfl⟩
  |_=>exact jN q
 |bl i=>
  cases a with
  |bl j=>cases q;cases (show x=.bl i from e);cases (show y=.bl j from n);exact zp p s M H _ _ v u Q I r f ⟨rfl,by rw[ou];exact k _ F H .refl rfl⟩
  |_=>exact jN q
 |_=>exact jN q
theorem wZ{q β:Type}{xs:List q}{s:List β}{i:Int}{d:q}(l:xs.length=s.length)(h:L2.atI xs i=some d):∃j:Nat,xs[j]? = some d/\∀y,s[j]? = some y->L2.atI s i=some y:=by
 unfold L2.atI at h ⊢;rw[l]at h;cases e:xK s.length i with
 |none=>rw[e]at h;cases h
 |some j=>rw[e]at h;exact⟨j,h,λy x=>x⟩
theorem ci.atI{K:FG}{F:Aa}{H:Hp}{s:List P}{xs:List V}{i:Int}{d:P}(r:ci K F H s xs)(h:L2.atI s i=some d):∃x,L2.atI xs i=some x/\RP K F H d x:=by obtain⟨j,a,n⟩:=wZ r.length h;obtain⟨x,e,p⟩:=r.get a;exact⟨x,n x e,p⟩
theorem dm.atI{K:FG}{F:Aa}{H:Hp}{m:List Addr}{s:List D}{xs:List V}{i:Int}{d:D}(r:dm K F H m s xs)(h:L2.atI s i=some d):∃x,L2.atI xs i=some x/\RD K F H m d x:=by obtain⟨j,a,n⟩:=wZ r.length h;obtain⟨x,e,p⟩:=r.get a;exact⟨x,n x e,p⟩
noncomputable def bI(k:bB):List bB->List q->Option q
 |h::s,v::x=>if h=k then some v else bI k s x
 |_,_=>none
noncomputable def b8:P->Option bB
 | .int i=>some (.inl i)
 | .str x=>some (.inr x)
 |_=>none
def al:P->P->Option P
 | .tup xs,.int i=>L2.atI xs i
 | .lst xs,.int i=>L2.atI xs i
 | .ro xs,.int i=>L2.atI xs i
 | .str x,.int i=>if gu x.length=true then (L2.atI x.cps.toList i).map λc=>.str ⟨#[c]⟩ else none
 | .dct s v,y=>match b8 y with
  |some k=>bI k s v
  |none=>none
 |_,_=>none
theorem lq:∀{s:List (bB×V)}{a:List P}{d:P},ci K F H a (s.map (·.2))->bI k (s.map (·.1)) a=some d->∃v,fR s k=some v/\RP K F H d v
 | [],a,d,r,h=>by cases a<;>exact jN h
 |(f,v)::s,[],d,r,h=>jN h
 |(f,v)::s,u::a,d,r,h=>by
  obtain⟨x,g,e,p,b⟩:=r;rw[List.map_cons]at e;injection e with c m;simp only[List.map_cons,bI]at h;by_cases n:f=k
  .rw [if_pos n]at h;cases h;exact⟨v,gF (p:=(f,v)) n,by rw[show v=x from c];exact p⟩
  .rw [if_neg n]at h;rw[<- m]at b;obtain⟨w,t,q⟩:=lq b h;exact⟨w,by rw[fQ (p:=(f,v)) n];exact t,q⟩
theorem fS(h:b8 t=some k)(r:RP K F H t v):v=kV k:=by
 cases t with
 |int i=>cases h;exact r
 |str x=>cases h;exact r
 |_=>exact jN h
theorem zM(r:X.A.units+1 < cLine):AL X (λx y H Q=>∃a v,x=.ref a/\hZ H a y (some v)/\(∃k,H a=some (.dK k))/\Q v H):=by
 intro f l p s M H x y v u Q I d i h m;obtain⟨a,w,rfl,g,⟨k,c⟩,q⟩:=h;cases d;have n:∃o,s.heap.get? a=some o/\o.ExactDict:=by obtain⟨_,_,_,_,o,_,_,e,n,_⟩:=I.hok a _ c;exact⟨o,e,n⟩
 obtain⟨o,e,n⟩:=n;exact tail_any ⟨o,e,n.1⟩ slot_dict_getitem.lookup (pU r I g i λz j b t=>⟨w,H,b,t,q⟩) m
set_option tactic.hygienic true in
theorem Lq(N:X.A.units+1 < cLine):AL X (rP X.K al):=by
 intro f l b s M H x y v n Q I S K h g;obtain⟨F,E,t,d,R,j,o,q,k⟩:=h;cases E with
 |tup m=>
  cases t with
  |int i=>obtain⟨a,xs,rfl,P,r⟩:=j;cases (show y=.int i from o);obtain⟨z,e,p⟩:=r.atI (show L2.atI m i=some d from q);exact EN f l b s M H _ _ v n Q I S K ⟨a,xs,i,z,rfl,rfl,P.sq,e,k z F H .refl p⟩ g
  |_=>exact jN q
 |lst m=>
  cases t with
  |int i=>obtain⟨a,xs,rfl,P,r⟩:=j;cases (show y=.int i from o);obtain⟨z,e,p⟩:=r.atI (show L2.atI m i=some d from q);exact rG f l b s M H _ _ v n Q I S K ⟨a,xs,i,z,rfl,rfl,P.sq,e,k z F H .refl p⟩ g
  |_=>exact jN q
 |ro m=>
  cases t with
  |int i=>obtain⟨a,xs,rfl,P,r⟩:=j;cases (show y=.int i from o);obtain⟨z,e,p⟩:=r.atI (show L2.atI m i=some d from q);exact rG f l b s M H _ _ v n Q I S K ⟨a,xs,i,z,rfl,rfl,P.sq,e,k z F H .refl p⟩ g
  |_=>exact jN q
 |str z=>
  cases t with
  |int i=>
   cases (show x=.str z from j);cases (show y=.int i from o);simp only[al]at q;split at q
   .rename_i L;cases e:L2.atI z.cps.toList i with
    |none=>rw[e]at q;exact jN q
    |some c=>rw[e]at q;cases q;exact EQ f l b s M H _ _ v n Q I S K ⟨z,i,c,rfl,rfl,g9 L,e,k _ F H .refl rfl⟩ g
   .cases q
  |_=>exact jN q
 |dct T m=>
  obtain⟨a,C,rfl,u,D,J,r⟩:=j;simp only[al]at q;cases A:b8 t with
  |none=>rw[A]at q;exact jN q
  |some O=>rw[A]at q;dsimp only at q;subst J;obtain⟨w,G,p⟩:=lq r q;have B:=fS A o;subst B;exact zM N f l b s M H _ _ v n Q I S K ⟨a,w,rfl,by rw[<- G];exact hZ.k D,⟨C,D⟩,k w F H .refl p⟩ g
 |_=>exact jN q
theorem LX{a b:Expr}{u z:EV}{N:Pos}(n:X.A.units+1 < cLine)(x:PE X a (tV X.K u))(e:PE X b (tV X.K z))(s:k7 b):PE X (.Subscript a b N) (tV X.K (ab al u z)):=
 (ze (Lq n) x e s).imp' λ_ _ _ h=>qQ h
end
section
variable{X:Cx}
theorem nw:∀{s:List (bB×V)}{a:List D}{d:D},dm K F H m a (s.map (·.2))->bI k (s.map (·.1)) a=some d->∃v,fR s k=some v/\RD K F H m d v
 | [],a,d,r,h=>by cases a<;>exact jN h
 |(f,v)::s,[],d,r,h=>jN h
 |(f,v)::s,g::a,d,r,h=>by
  obtain⟨x,i,e,p,b⟩:=r;rw[List.map_cons]at e;injection e with c t;simp only[List.map_cons,bI]at h;by_cases n:f=k
  .rw [if_pos n]at h;cases h;exact⟨v,gF (p:=(f,v)) n,by rw[show v=x from c];exact p⟩
  .rw [if_neg n]at h;rw[<- t]at b;obtain⟨w,q,u⟩:=nw b h;exact⟨w,by rw[fQ (p:=(f,v)) n];exact q,u⟩
def uP(r:EE)(k:EV):EE:=λL S=>aG (r L S) λd x=>aG (k L x) λy h=>match d with
 | .p v=>(al v y).map λz=>(.p z,h)
 | .ref i=>match h[i]? with
  | some (.lst s)=>(match y with
   | .int j=>(L2.atI s j).map λz=>(z,h)
   |_=>none)
  |some (.fz v)=>(al v y).map λz=>(.p z,h)
  | some (.dct a e)=>(match b8 y with
   |some k=>(bI k a e).map λz=>(z,h)
   |none=>none)
  |_=>none
theorem JQ{a b:Expr}{u:EE}{z:EV}{N:Pos}(hu:X.A.units+1 < cLine)(ha:PE X a (tE X.K u))(hb:PE X b (tV X.K z))(hs:k7 b):PE X (.Subscript a b N) (tE X.K (uP u z)):=
 (ze (((Lq hu).or rG).or (zM hu)) ha hb hs).imp' λM H Q hz=>by
  obtain⟨F,m,L,S,d,O,r,l,q,k⟩:=hz;obtain⟨x,Z,A,q⟩:=ai q;obtain⟨y,K,e2,q⟩:=ai q;refine⟨F,m,L,S,x,Z,r,l,A,λv Y m1 I c r1 p1=>?_⟩;refine⟨Y,m1,L,Z,y,K,r1,l.mono c,e2,λh B R U o f V=>?_⟩;have px:=RD.mono o p1;have s:∀w:P,RP X.K B U w v->(al w y).map (λe=>(D.p e,K))=some (d,O)->rP X.K al v h U Q:=λw pw q=>by
   cases g:al w y with
   |none=>rw[g]at q;cases q
   |some e=>rw[g]at q;cases q;exact⟨B,w,y,e,f.ft,pw,V,g,λt F3 H3 gr W=>k t F3 R H3 (c.trans (o.trans gr.stp)) (f.grow gr) W⟩
  cases x with
  |p w=>exact .inl (.inl (s w px q))
  |ref i=>
   obtain⟨a,rfl,hm⟩:=px;dsimp only at q;cases C:K[i]? with
   |none=>rw[C]at q;cases q
   |some so=>
    rw[C]at q;have T:=f.obj i a so hm C;cases so with
    |fz w=>exact .inl (.inl (s w T q))
    |dct ks vs=>
     dsimp only at q;obtain⟨n,hk,ek,ra⟩:=T;cases E:b8 y with
     |none=>rw[E]at q;cases q
     |some J=>
      rw[E]at q;dsimp only at q;subst ek;cases g:bI J (n.map (·.1)) vs with
      |none=>rw[g]at q;cases q
      |some e=>rw[g]at q;cases q;obtain⟨w,A,p⟩:=nw ra g;have G:=fS E V;subst G;exact .inr ⟨a,w,rfl,by rw[<- A];exact hZ.k hk,⟨n,hk⟩,k w B R U (c.trans o) f p⟩
    |ins _ _ _=>cases q
    |exc _=>cases q
    |dtt _ _=>cases q
    |lst ds=>
     dsimp only at q;cases y with
     |int j=>
      dsimp only at q;obtain⟨xs,hH,rs⟩:=T;cases g:L2.atI ds j with
      |none=>rw[g]at q;cases q
      |some e=>rw[g]at q;cases q;obtain⟨t,e3,W⟩:=rs.atI g;cases (show h=.int j from V);exact .inl (.inr ⟨a,xs,j,t,rfl,rfl,hX.of hH,e3,k t B R U (c.trans o) f W⟩)
     |_=>cases q
def cy:P->Option Nat
 | .tup xs=>some xs.length
 | .lst xs=>some xs.length
 | .ro xs=>some xs.length
 | .str x=>if gu x.length=true then some x.length else none
 |_=>none
def b7:D->aD->Option Nat
 | .p v,_=>cy v
 | .ref i,S=>match S[i]? with
  |some (.lst d)=>some d.length
  |some (.fz v)=>cy v
  |_=>none
def dA(r:EE):EV:=λL S=>aG (r L S) λd h=>(b7 d h).map λn=>(.int n,h)
set_option tactic.hygienic true in
theorem wA{F:Aa}{H:Hp}{w:P}{v:V}{n:Nat}{Q:VK}(p:RP X.K F H w v)(h:cy w=some n)(q:Q (.int n) H) :
  (∃p y,[v]=[V.ref p]/\(hX X.K H p y\/sO X.K H p y)/\Q (.int y.length) H)\/(∃z,[v]=[V.str z]/\z.length≤sizeLine/\Q (.int z.length) H):=by
 cases w with
 |tup d=>obtain⟨a,xs,rfl,t,r⟩:=p;cases h;exact .inl ⟨a,xs,rfl,.inr t.sq,by rw[<- r.length];exact q⟩
 |lst d=>obtain⟨a,xs,rfl,t,r⟩:=p;cases h;exact .inl ⟨a,xs,rfl,.inl t.sq,by rw[<- r.length];exact q⟩
 |ro d=>obtain⟨a,xs,rfl,t,r⟩:=p;cases h;exact .inl ⟨a,xs,rfl,.inl t.sq,by rw[<- r.length];exact q⟩
 |str x=>
  cases (show v=.str x from p);simp only[cy]at h;split at h
  .rename_i c;cases h;exact .inr ⟨x,rfl,g9 c,q⟩
  .cases h
 |_=>exact jN h
theorem JO(P:Gl X "len")(f:X.mg "len"=none)(K:PE X e (tE X.K l))(c:starEach [e] X.env=[(false,eval e X.env)]:=by rfl):PE X (.Call (.Name "len" p) [e] [] N) (tV X.K (dA l)):=
 (nM (sK.or sJ) P f PySem.boot_len (gj K iF (by rw[c];rfl)) (by decide) (by decide) (by rw[c];rfl) rfl).imp' λM H Q A=>by
  obtain⟨F,m,L,S,d,O,r,h,q,k⟩:=A;obtain⟨x,b,j,q⟩:=ai q;refine⟨F,m,L,S,x,b,r,h,j,λv Y B I E u t=>?_⟩;cases s:b7 x b with
  |none=>rw[s]at q;cases q
  |some n=>
   rw[s]at q;cases q;have y:Q (.int n) I:=k _ Y B I E u rfl;cases x with
   |p w=>exact wA t s y
   |ref i=>
    obtain⟨a,rfl,f⟩:=t;simp only[b7]at s;cases C:O[i]? with
    |none=>rw[C]at s;cases s
    |some g=>
     rw[C]at s;have o:=u.obj i a g f C;cases g with
     |fz w=>exact wA o s y
     |dct J R=>cases s
     |ins _ _ _=>cases s
     |exc _=>cases s
     |dtt _ _=>cases s
     |lst G=>cases s;obtain⟨xs,z,D⟩:=o;exact .inl ⟨a,xs,rfl,.inl (hX.of z),by rw[<- D.length];exact y⟩
noncomputable def c8(d:D)(S:aD):Option (Nat×List D):=match d with
 | .ref i=>match S[i]? with
  |some (.lst s)=>some (i,s)
  |_=>none
 |_=>none
set_option tactic.hygienic true in
theorem kF(h:c8 d S=some (i,k)):d=.ref i/\S[i]? = some (.lst k):=by
 unfold c8 at h;split at h
 .split at h
  .rename_i e;cases h;exact⟨rfl,e⟩
  .cases h
 .cases h
def bg(r:EE)(a:EE):EE:=λL S=>aG (r L S) λd h=>match c8 d h with
 |none=>none
 |some _=>aG (a L h) λx e=>match c8 d e with
  |some (i,s)=>if few s=true then some (.p .non,e.set i (.lst (s++[x]))) else none
  |none=>none
set_option tactic.hygienic true in
theorem AX{o e:Expr}{T l:EE}{p c:Pos}(ho:PE X o (tE X.K T))(he:PE X e (tE X.K l))(G:starEach [e] X.env=[(false,eval e X.env)]:=by rfl)
  (b:attributeBase o "append" X.env (eval o X.env)=eval o X.env:=by rfl) (t:(p.endLine == c.line)=true:=by rfl):PE X (.Call (.Attribute o "append" p) [e] [] c) (tE X.K (bg T l)):=
 (CH uS PySem.F.slot_list_append PySem.F.type_list_append pK ho (gj he iF (by rw[G];rfl)) b (by rw[G];rfl) t (by rw[G];rfl) rfl).imp' λM H h hz=>by
  obtain⟨F,m,L,S,d,O,r,s,q,k⟩:=hz;obtain⟨x,P,e1,q⟩:=ai q;refine⟨F,m,L,S,x,P,r,s,e1,λv Y m1 I s1 r1 Z=>?_⟩;cases D:c8 x P with
  |none=>rw[D]at q;cases q
  |some z=>
   obtain⟨i,ds⟩:=z;rw[D]at q;dsimp only at q;obtain⟨rfl,C⟩:=kF D;obtain⟨a,rfl,hm⟩:=id Z;obtain⟨xs,hH,rs⟩:=r1.obj i a _ hm C;refine⟨.inl ⟨rfl,xs,hX.of hH⟩,?_⟩;obtain⟨y,R,e2,q⟩:=ai q;refine⟨Y,m1,L,P,y,R,r1,s.mono s1,e2,λu B J U s2 N p2=>?_⟩;cases n:c8 (.ref i) R with
   |none=>rw[n]at q;cases q
   |some z=>
    obtain⟨i2,A⟩:=z;rw[n]at q;dsimp only at q;obtain⟨e3,f⟩:=kF n;cases e3;split at q
    .rename_i V;cases q;obtain⟨a2,e4,w⟩:=RD.mono s2 Z;cases e4;obtain⟨g,j,K⟩:=N.obj i a _ w f;have hl:=kh V;have E:g.length < sizeLine:=by
      have:A.length≤1000000:=of_decide_eq_true V;rw[<- K.length];exact lh this (by decide)
     have W:∀zs,U a≠some (.tup zs):=λzs z=>by rw[j]at z;cases z
     have Q:Stp B J U B J (cg U a (.lst (g++[u]))):=fM N w f trivial W;refine⟨a,g,u,rfl,rfl,j,E,?_⟩;exact k .non B J _ (s1.trans (s2.trans Q)) (N.set w f trivial W ⟨_,aJ,dm.mono Q (K.append ⟨u,[],rfl,p2,rfl⟩)⟩) rfl
    .cases q
noncomputable abbrev EO:=Lc->aD->Option (Option Int×aD)
noncomputable def gG:EO:=λ_ S=>some (none,S)
def gc(a:EV):EO:=λL S=>aG (a L S) λv h=>match v with
 | .int i=>some (some i,h)
 |_=>none
inductive tOI(K:FG)(f:EO)(σ:L2.St)(H:Hp)(Q:Option Int->Hp->Prop):Prop
 |mk (F:Aa) (m:List Addr) (L:Lc) (S:aD) (b:Option Int) (S':aD) (h0_:Rel K F H m S) (h1_:RL K F H m σ L) (h2_:f L S=some (b,S')) (h3_:∀F' m' H',Stp F m H F' m' H'->Rel K F' H' m' S'->Q b H'):tOI K f σ H Q
noncomputable def tO(K:FG)(f:EO):TO:=λM H Q=>tOI K f M H Q
theorem _root_.L2.PO.imp'(h:PO X e t)(i:∀M H Q,k M H Q->t M H Q):PO X e k:=λp s M H Q I q=>h p s M H Q I (i M H Q q)
theorem El:PO X none (tO X.K gG):=Bv.imp' λM H Q h=>by obtain⟨F,m,L,S,d,O,r,l,q,k⟩:=h;cases q;exact k F m H .refl r
theorem zy(h:PE X e (tV X.K u)):PO X (some e) (tO X.K (gc u)):=(Bt h).imp' λM H Q z=>by
 obtain⟨F,m,L,S,d,O,r,l,q,k⟩:=z;obtain⟨x,b,a,q⟩:=ai q;cases x with
 |int i=>cases q;exact⟨F,m,L,S,_,_,r,l,a,λv Y s I f n p=>⟨i,p,k Y s I f n⟩⟩
 |_=>cases q
def cut(xs:List q)(lo h:Option Int):List q:=(xs.drop (HT.eH xs.length 0 lo)).take (HT.eH xs.length xs.length h-HT.eH xs.length 0 lo)
theorem ci.cut(r:ci K F H k xs)(lo h:Option Int):ci K F H (Ev.cut k lo h) (uw xs lo h):=by unfold Ev.cut uw;rw[r.length];exact(r.drop _).take _
def ML:P->Option Int->Option Int->Option P
 | .lst xs,lo,h=>some (.lst (cut xs lo h))
 | .ro xs,lo,h=>some (.lst (cut xs lo h))
 | .tup xs,lo,h=>if HT.eH xs.length 0 lo=0/\HT.eH xs.length xs.length h=xs.length then none else some (.tup (cut xs lo h))
 |_,_,_=>none
theorem _root_.L2.PI.imp'(h:PI X r iter t)(i:∀M H R,k M H R->t M H R):PI X r iter k:=λp s M H R I q=>h p s M H R I (i M H R q)
theorem zN(f:∀B h U,Stp F m H B h U->hX K U a xs)(r:ci K F H t xs):FS K (Js K a) t F m H:=by
 intro B h U s;have q:=f B h U s;have k:=ci.mono s r;refine⟨λi v e=>?_,⟨xs,q,by rw[k.length];exact Nat.le_refl _⟩⟩;obtain⟨x,n,p⟩:=k.get e;refine⟨⟨xs,x,q,n⟩,λy b z=>?_⟩;obtain⟨rfl,z⟩:=z;have:=z xs q
 rw[n]at this;cases this;exact⟨B,.refl,p⟩
noncomputable def intsFrom(lo:Int)(n:Nat):List P:=(List.range n).map λ(i:Nat)=>.int (lo+(i:Int))
def gL(a:EV):gf:=λL S=>aG (a L S) λv h=>match v with
 | .int j=>if decide (j.natAbs < 1000000)=true then some (intsFrom 0 j.toNat,h) else none
 |_=>none
theorem ER{lo:Int}:FS K (Jr lo n) (intsFrom lo n) F m H:=by
 intro B k U s;have l:(intsFrom lo n).length=n:=by unfold intsFrom;simp
 refine⟨λi v e=>?_,by show n≤(intsFrom lo n).length;rw[l];exact Nat.le_refl _⟩;have h:i < n:=by rw[<- l];exact(List.getElem?_eq_some_iff.mp e).1
 refine⟨h,λx a z=>?_⟩;obtain⟨rfl,rfl⟩:=z;refine⟨B,.refl,?_⟩;unfold intsFrom at e;simp[h]at e;subst e;exact rfl
set_option tactic.hygienic true in
theorem Ml{w a:Expr}{u:EV}{p N:Pos}(g:Gl X "range")(n:X.mg "range"=none)(s:PE X a (tV X.K u))(h:starEach [a] X.env=[(false,eval a X.env)]:=by rfl):PI X w (.Call (.Name "range" p) [a] [] N) (tI X.K (gL u)):=
 (xx g n (gj s iF (by rw[h];rfl)) h).imp' λM H R z=>by
  obtain⟨F,m,L,S,o,O,r,l,q,k⟩:=z;obtain⟨v,i,e,q⟩:=ai q;cases v with
  |int j=>
   dsimp only at q;split at q
   .rename_i c;have y:j.natAbs < 1000000:=of_decide_eq_true c;cases q;refine⟨F,m,L,S,_,_,r,l,e,λx Y f I d t b=>?_⟩;cases (show x=.int j from b);exact⟨j,rfl,by lia,by lia,k _ Y f I d t ER⟩
   .cases q
  |_=>cases q
end
def a_(g:iU)(c:EB)(e:EV):List P->Lc->aD->Option (List P×aD)
 | [],_,S=>some ([],S)
 |v::r,L,S=>match g v L with
  |none=>none
  |some h=>aG (c h S) λk x=>if k=true then aG (e h x) λy a=>aG (a_ g c e r h a) λn s=>some (y::n,s) else a_ g c e r h x
noncomputable def jK(j:List Nat)(n:Nat)(L:List (Option q)):List (Option q):=(j.foldl (λL i=>L.set i none) L)++List.replicate n none
def aU(i:gf)(j:List Nat)(n:Nat)(g:iU)(c:EB)(e:EV):EV:=λL S=>aG (i L S) λxs h=>if few xs=true then aG (a_ g c e xs (jK j n L) h) λy x=>some (.lst y,x) else none
noncomputable def gQ:EB:=λ_ S=>some (true,S)
theorem fN(j:List Nat):∀L:List (Option q),(j.foldl (λL i=>L.set i none) L).length=L.length:=by
 induction j with
 |nil=>intro L;rfl
 |cons t j h=>intro L;rw[gD,h,eY]
theorem oV(j:List Nat):∀(L:List (Option q))(i:Nat)(d:q),(j.foldl (λL i=>L.set i none) L)[i]? = some (some d)->L[i]? = some (some d)/\i ∉ j:=by
 induction j with
 |nil=>intro L i d h;exact⟨h,by simp⟩
 |cons t j s=>
  intro L i d h;rw[gD]at h;obtain⟨x,a⟩:=s _ _ _ h;by_cases e:t=i
  .subst e;by_cases l:t < L.length
   .rw [dD l]at x;cases x
   .rw [qJ (by rw[eY];lia)]at x;cases x
  .rw [a6 e]at x;exact⟨x,by simp[a];exact λz=>e z.symm⟩
theorem qM(j:List Nat)(n:Nat)(L:List (Option q)):(jK j n L).length=L.length+n:=by unfold jK;rw[cJ,fN,List.length_replicate]
theorem v9(h:(jK j n L)[i]? = some (some d)):L[i]? = some (some d)/\i ∉ j/\i < L.length:=by
 unfold jK at h;by_cases x:i < L.length
 .rw [List.getElem?_append_left (by rw[fN];exact x)]at h;obtain⟨a,e⟩:=oV j L i d h;exact⟨a,e,x⟩
 .rw [fB (by rw[fN];lia),qL]at h;split at h<;>cases h
variable{M:L2.St}
theorem RL.up(l:RL K F H m M L)(j:List Nat)(n:Nat):RL K F H m (jK j n M) (jK j n L):=by
 refine⟨by rw[qM,qM,l.len],λi d h=>?_⟩;obtain⟨a,s,f⟩:=v9 h;obtain⟨v,e,r⟩:=l.at' i d a;refine⟨v,?_,r⟩;unfold jK;rw[List.getElem?_append_left (by rw[fN,l.len];exact f)];have k:∀(j:List Nat)(M:L2.St),i ∉ j->M[i]? = some (some v)->(j.foldl (λL i=>L.set i none) M)[i]? = some (some v):=by
  intro j;induction j with
  |nil=>intro M _ e;exact e
  |cons t j b=>intro M x e;rw[gD];refine b _ (λz=>x (aS _ z)) ?_;rw[a6 (λz=>x (by rw[z];exact List.mem_cons_self))];exact e
 exact k j M s e
noncomputable def lT(G:Scope)(e:Env):List (Str×Addr):=((G.names.filter λx=>x.2 == .free).map λx=>(x.1,(e.cells.lookup x.1).getD 0)).reverse
def inn(X:Cx)(G:Scope)(T:LS)(s:Shared)(H:Hp)(C:Addr)(f:List Addr):Cx:=
 { X with N:=T,s₀:=s,H₀:=H,env:=compEnvC G (lT G X.env) C X.env,outer:=X.stack,ex:=f,fn:=λ_=>false,pn:=[],xe:=λ_ _=>False }
structure BlockOk(X:Cx)(scope:Scope)(N':LS)(ts:List Nat)(n:Nat):Prop where
 kind:scope.kind=.function
 cell:∀x ∈ scope.names,x.2≠.cell
 loc:∀x ∈ scope.names,x.2=.local->scope.names.lookup x.1=some .local
 fr:∀x ∈ scope.names,x.2=.free->scope.names.lookup x.1=some .free/\(X.env.kindOf x.1=some .cell\/X.env.kindOf x.1=some .free)
 names:X.N=N'.take X.N.length
 more:N'.length=X.N.length+n
 ts:∀x ∈ scope.names,x.2=.local->∀i:Nat,X.N[i]? = some x.1->i ∈ ts
theorem gJ:∀{l:List (Str×q)}{x:Str}{v:q},l.lookup x=some v->(x,v) ∈ l
 | [],_,_,h=>by simp at h
 |(y,w)::r,x,v,h=>by
  rw[mU]at h;cases e:x == y with
  |true=>rw[e]at h;cases h;rw[show x=y from by simpa using e];exact List.mem_cons_self
  |false=>rw[e]at h;exact aS _ (gJ h)
theorem jO:∀{l:List (Str×q)}{x:Str}{v:q},(x,v) ∈ l->∃w,l.lookup x=some w
 | [],_,_,h=>by simp at h
 |(y,w)::r,x,v,h=>by
  rw[mU];cases e:x == y with
  |true=>exact⟨w,rfl⟩
  |false=>
   rcases bq.mp h with h|h
   .injection h with a _;subst a;simp at e
   .exact jO h
variable{x:Str}
theorem ff(h:(relabel G r).names.lookup x=some k):∃a,(x,a) ∈ G.names/\(k=a\/(k=.cell/\a=.free)):=by
 have m:=gJ h;unfold relabel at m;obtain⟨⟨n,a⟩,t,e⟩:=aX.mp m;by_cases c:(a == NameKind.free && r.scope.kind == .function && r.kindOf n == some .cell)=true
 .have s:(n,NameKind.cell)=(x,k):=by simpa[c] using e
  injection s with f b;subst f;rw[Bool.and_eq_true,Bool.and_eq_true]at c;exact⟨a,t,.inr ⟨b.symm,by simpa using c.1.1⟩⟩
 .have s:(n,a)=(x,k):=by simpa[c] using e
  injection s with f b;subst f;exact⟨a,t,.inl b.symm⟩
section
variable{X:Cx}{G:Scope}{T:LS}{j:List Nat}{n:Nat}
theorem BlockOk.cl(B:BlockOk X G T j n)(I:Inv X J M H s)(h:(lT G X.env).lookup x=some c):X.env.cells.lookup x=some c/\(x,NameKind.free) ∈ G.names:=by
 have t:=gJ h;unfold lT at t;obtain⟨⟨y,k⟩,m,e⟩:=aX.mp (List.mem_reverse.mp t);obtain⟨m,d⟩:=fy.mp m;have r:k=.free:=by simpa using d
 subst r;injection e with q f;subst q;obtain⟨_,v⟩:=B.fr _ m rfl;obtain⟨p,a⟩:=I.ok.has y v;dsimp only at f;rw[a]at f;have b:p=c:=f;subst b;exact⟨a,m⟩
theorem BlockOk.has(B:BlockOk X G T j n)(h:(x,NameKind.free) ∈ G.names):∃c,(lT G X.env).lookup x=some c:=by unfold lT;exact jO (v:=(X.env.cells.lookup x).getD 0) (List.mem_reverse.mpr (aX.mpr ⟨(x,.free),fy.mpr ⟨h,by simp⟩,rfl⟩))
theorem zW(B:BlockOk X G T j n)(I:Inv X r M H s)(C:s.heap.objs.size≤k)(f:∀b ∈ t,sR X r H b)(d:∀b ∈ t,b < s.heap.objs.size) :
  (inn X G T s H k t).Ok where
 mod:=I.ok.mod
 kind:=B.kind
 glob:=I.ok.glob
 blt:=I.ok.blt
 above:=C
 inj:=λx y c q v=>I.ok.inj x y c (B.cl I q).1 (B.cl I v).1
 has:=λx h=>by
  have p:(relabel G X.env).names.lookup x=some .cell\/(relabel G X.env).names.lookup x=some .free:=h;rcases p with h|h
  .obtain⟨w,m,e|⟨_,e⟩⟩:=ff h
   .subst e;exact absurd rfl (B.cell _ m)
   .subst e;exact B.has m
  .obtain⟨w,m,e|⟨e,_⟩⟩:=ff h
   .subst e;exact B.has m
   .cases e
 cab:=λx c h=>nomatch h
 hd:=I.ok.hd
 frames:=I.ok.frames
 stk:=.inl rfl
 exf:=λb a=>⟨b0 (cj (d b a) C),λx c h=>(f b a).2.2.2.2.1 x c (B.cl I h).1⟩
 bs:=I.bs
 bsz:=aM I.ok.bsz I.sz
 noex:=λb o e a=>by
  rcases(f b a).2.2.2.1 with z|z
  .exact I.ok.noex b o e z
  .exact absurd (cj (Heap.lt_size (I.ok.bs b o e).1) z) (i7 _)
 exfs:=λb a z=>by
  rcases bq.mp (I.stkSub b z) with z|z
  .exact (f b a).2.1 z
  .exact (f b a).2.2.1 z
 funs:=I.stack
 frf:=I.stkFree
theorem _root_.L2.Un.sameBut(u:Un fs r H H' h t)(s:Heap.SameBut k t J)(C:∀b o,h.get? b=some o->b≠k):Un fs r H H' h J where
 keep:=λb o e n a x=>s.extBut b o (C b o e) (u.keep b o e n a x)
 slot:=λb o e n a x=>by obtain⟨l,q⟩:=u.slot b o e n a x;exact⟨l,s.extBut b _ (C b o e) q⟩
 free:=u.free
 there:=λb o e x=>by obtain⟨f,q⟩:=u.there b o e x;exact⟨f,s.extBut b _ (C b o e) q⟩
 tups:=u.tups
 frzs:=u.frzs
 tbls:=u.tbls
theorem _root_.L2.jJ.sameBut{P:Program}{w:World}{H:Hp}{h x:Heap}{C:Addr}(ok:jJ P w H h)(n:Heap.SameBut C h x)(a:H C=none):jJ P w H x:=λb u e=>
 (ok b u e).stay (fun c v s q=>n.extBut c v (by
  rintro rfl;rcases s with z|z
  .subst z;rw[a]at e;cases e
  .rw [a]at z;cases z) q) (λ_ q=>q) λ_ _ q=>q
inductive PIfs(X:Cx):Ab->EB->Prop where
 |none:PIfs X [] gQ
 |one {c:Expr}{q:EB}:PT X c (tQ X.K q)->PIfs X [c] q
theorem Kp.bump(x:¬F p)(t:∀xs,H p≠some (.tup xs)):Kp F m H F m (cg H p o):=
 ⟨⟨[],by simp⟩,λ_ h=>h,λb u f h=>by rw[av (by rintro rfl;exact x f)];exact h,λb xs h=>by rw[av (by rintro rfl;exact t xs h)];exact h⟩
theorem Stp.bump(s:Stp F m H F' m' H')(x:H p=none):Stp F m H F' m' (cg H' p o) where
 pre:=s.pre
 oth:=λb u h a=>by rw[av (by rintro rfl;rw[x]at h;cases h)];exact s.oth b u h a
 frz:=s.frz
 frk:=λb u f h=>by rw[av (by rintro rfl;rw[x]at h;cases h)];exact s.frk b u f h
 tup:=λb xs h=>by rw[av (by rintro rfl;rw[x]at h;cases h)];exact s.tup b xs h
 trk:=λb h=>by
  by_cases e:b=p
  .subst e;rw[aJ];exact λz=>nomatch z
  .rw [av e];exact s.trk b h
 nf:=s.nf
 nm:=s.nm
theorem Rel.bump(r:Rel K F H m S)(x:¬F p)(s:p ∉ m)(t:∀xs,H p≠some (.tup xs)):Rel K F (cg H p o) m S:=
 r.stayK (Kp.bump x t) (λa u e h=>by rw[av (by rintro rfl;exact s e)];exact h) (λ_ f=>.inl f) λa f=>by rw[av (by rintro rfl;exact x f)];exact r.ft a f
theorem Lp:Kp F m H (λb=>F b\/b=p) m H:=⟨⟨[],by simp⟩,λ_ h=>.inl h,λ_ _ _ h=>h,λ_ _ h=>h⟩
theorem Stp.addF(s:Stp F m H F' m' H')(x:H p=none):Stp F m H (λb=>F' b\/b=p) m' H':=
 ⟨s.pre,s.oth,fun b h=>.inl (s.frz b h),s.frk,s.tup,s.trk,fun b h=>by
  rcases h with h|h
  .exact s.nf b h
  .subst h;exact .inr (.inl x),s.nm⟩
theorem Rel.addF(r:Rel K F H m S)(s:p ∉ m)(n:H p≠none):Rel K (λb=>F b\/b=p) H m S where
 len:=r.len
 nd:=r.nd
 obj:=λi a o e x=>(r.obj i a o e x).kp Lp λu h=>h
 sep:=λi a o e x w f=>by
  rcases f with f|f
  .exact r.sep i a o e x w f
  .subst f;exact s (bH e)
 trk:=r.trk
 ft:=λa f=>by
  rcases f with f|f
  .exact r.ft a f
  .subst f;exact n
theorem _root_.L2.Inv.letGo(I:Inv X k M H s)(f:Heap.SameBut h s.heap t)(C:H h=none)(v:X.s₀.heap.objs.size≤h)(d:h≠X.env.locals)
  (w:∀x c,X.env.cells.lookup x=some c->c≠h) (u:∀p ∈ X.pn++k,p.1≠h):Inv X k M H { s with heap:=t }:=by
 have r:∀b:Addr,b ∉ [h]->b≠h:=λb m z=>m (by simp[z]);refine I.call' (J:={ s with heap:=t }) (N:=[h]) rfl ⟨λb o e _ _ a=>f.extBut b o (r b a) e,λb o e _ _ a=>⟨o.slots,f.extBut b o (r b a) e⟩,λ_ _ _ n _=>n,λb o e a=>⟨o,f.extBut b o (r b a) e⟩,λ_ _ q=>q,λ_ _ _ q=>q,λb g q=>⟨#[],by rw[q];simp⟩⟩ (I.hok.sameBut f C) I.bare λb m=>?_;have e:b=h:=by simpa using m
 subst e;exact⟨.inr v,d,w,u⟩
set_option tactic.hygienic true in
theorem x9(I:Nat->Shared->Prop)
  (u:∀n s,I n s->wpAny (model t w) A (pyNext it) (fun r f=>match r with
   |none=>R (.ok .next) f
   | some v=>wpAny (model t w) A (letOwnedTupleGo tg it v) (fun _ d=>wpAny (model t w) A (assign tg k v) (fun _ g=>
     wpAny (model t w) A (forIn ifs true fun c r=>if r=true then do let ok <- isTrue c k (eval c k);pure (ForInStep.yield ok) else pure (ForInStep.yield r)) (fun ok b=>
      if ok=true then wpAny (model t w) A (eval elt k) (fun x i=>
       wpAny (model t w) A (call (.builtin "list.append") [J,x]) (λ_ j=>∃m,m < n/\I m j) (notedBy (model t w) A k λe a=>R (.error e) a) i) (notedBy (model t w) A k λe a=>R (.error e) a) b
      else ∃m,m < n/\I m b) (notedBy (model t w) A k λe a=>R (.error e) a) g) (notedBy (model t w) A k λe a=>R (.error e) a) d) (notedBy (model t w) A k λe a=>R (.error e) a) f) (notedBy (model t w) A k λe a=>R (.error e) a) s)
  (n:Nat) (h:I n s):codeAny (model t w) A (.compLoop (.ListComp elt [⟨tg,iter,ifs,0⟩] G N) 0 it J k) R s:=by
 refine codeAny_loop rfl I (λn s S=>?_) n h;show wpAny _ A ((compTurn (.ListComp elt [⟨tg,iter,ifs,0⟩] G N) 0 it J k).onRaise (λx=>do noteFrame x k;theTreesLotGoes x)) _ _ s;refine wpAny_noted ?_;rw[compTurn_list];refine wpAny_bind (wpAny_standAt (wpAny_bind (wpAny_mono (u n s S) (λr f p=>?_) λ_ _ z=>z)));cases r with
 |none=>exact wpAny_pure p
 |some v=>
  refine wpAny_bind (wpAny_mono p (λ_ d l=>wpAny_bind (wpAny_mono l (λ_ g y=>wpAny_bind (wpAny_mono y (λok b q=>?_) λ_ _ z=>z)) λ_ _ z=>z)) λ_ _ z=>z);cases ok with
  |false=>exact wpAny_pure ⟨rfl,q⟩
  |true=>exact wpAny_bind (wpAny_bind (wpAny_mono q (λx i o=>wpAny_bind (wpAny_mono o (λ_ j H=>wpAny_pure (wpAny_pure ⟨rfl,H⟩)) λ_ _ z=>z)) λ_ _ z=>z))
theorem Ch{w:Heap}{tk:Nat}(B:BlockOk X G T j n)(I:Inv X J M U k)(C:k.heap.objs.size≤h)(W:∀b ∈ fp,sR X J U b)(K:∀b ∈ fp,b < k.heap.objs.size)(l:∀b o,k.heap.get? b=some o->w.get? b=some o)
  (Y:U k.heap.objs.size=none) (D:k.heap.objs.size≠h) (F:U h=none) (t:w.Ns h mC) (a:w.get? k.heap.objs.size=some { cls:=.type "list",dict:=none,data:=.seq ([]:LV).toArray }) :
  Inv (inn X G T k U h fp) [] (jK j n M) (cg U k.heap.objs.size (.lst [])) { k with heap:=w,toks:=tk }:=by
 refine⟨zW B I C W K,rfl,I.bare,Un.laid l (Nat.le_refl _) Y,?_,λx c e=>?_,?_,λx c e=>?_,λp hp=>absurd (show p ∈ ([]:PN) from hp) (by simp),?_,?_⟩
 .obtain⟨m0,Z,P⟩:=I.loc;refine⟨_,t,λi x v Q R hv=>?_⟩;obtain⟨g,H,S⟩:=v9 R;have r:M.length=X.N.length:=I.len;have L:X.N[i]? = some x:=by
   rw[B.names,iz (by rw[<- r];exact S)];exact Q
  have d:(relabel G X.env).names.lookup x=some .local\/(relabel G X.env).names.lookup x=some .cell\/(relabel G X.env).names.lookup x=some .free:=hv;have O:¬(relabel G X.env).names.lookup x=some .local:=λz=>by
   obtain⟨N,m,e|⟨e,_⟩⟩:=ff z
   .subst e;exact absurd (B.ts _ m rfl i L) H
   .cases e
  have E:(x,NameKind.free) ∈ G.names:=by
   rcases d with z|z|z
   .exact absurd z O
   .obtain⟨N,m,e|⟨_,e⟩⟩:=ff z
    .subst e;exact absurd rfl (B.cell _ m)
    .subst e;exact m
   .obtain⟨N,m,e|⟨e,_⟩⟩:=ff z
    .subst e;exact m
    .cases e
  obtain⟨_,f⟩:=B.fr _ E rfl;have A:Fk X.env.scope x:=by
   rcases f with z|z
   .exact .inr (.inl z)
   .exact .inr (.inr z)
  obtain⟨u,ru,lk⟩:=P i x v L g A;refine⟨u,ru,.inr ⟨?_,?_⟩⟩
  .rcases d with z|z|z
   .exact absurd z O
   .exact .inl z
   .exact .inr z
  .rcases lk with ⟨z,_⟩|⟨_,c,V,ic⟩
   .rcases f with y|y
    .rw [z]at y;cases y
    .rw [z]at y;cases y
   .obtain⟨c',s⟩:=B.has E;have:=(B.cl I s).1
    rw[V]at this;cases this;obtain⟨o,q,hd⟩:=ic;exact⟨c,s,o,l c o q,hd⟩
 .obtain⟨v,o,q,hd⟩:=I.cell x c (B.cl I e).1;exact⟨v,o,l c o q,hd⟩
 .show cg U k.heap.objs.size (.lst []) h=none;rw[av (Ne.symm D)];exact F
 .obtain⟨v,o,q,hd⟩:=I.cell x c (B.cl I e).1;rw[av (b0 (Heap.lt_size q))];exact I.freeC x c (B.cl I e).1
 .exact I.hok.laid l (Nat.le_refl _) ⟨Nat.zero_le _,[],0,.nil,a⟩
 .show (jK j n M).length=T.length;rw[qM,I.len,B.more]
inductive cIv(K:FG)(Y:Cx)(F1:Aa)(m1:List Addr)(H2:Hp)(A:Addr)(tn:Nat->Heap->Prop)(fp:List Addr)(R:Nat->Nat->Lc->aD->List P->Prop)(ys:List P)(nn:Nat)(sx:Shared):Prop
 |mk (i:Nat) (σ':L2.St) (F':Aa) (m':List Addr) (H':Hp) (L':Lc) (S':aD) (acc ck:List P) (xs:List V) (h0_:Inv Y [] σ' H' sx) (h1_:tn i sx.heap) (h2_:∀b ∈ fp,H' b=none) (h3_:Stp F1 m1 H2 F' m' H') (h4_:Rel K F' H' m' S') (h5_:RL K F' H' m' σ' L') (h6_:H' A=some (.lst xs)) (h7_:ci K F' H' acc xs) (h8_:acc.length≤i) (h9_:¬F' A) (ha_:A ∉ m') (hb_:R nn i L' S' ck) (hc_:acc++ck=ys):cIv K Y F1 m1 H2 A tn fp R ys nn sx
set_option tactic.hygienic true in
theorem pX 
  (B:BlockOk X G T j n) (hcalm:X.calm=true)
  (hi:PI X tg iter (tI X.K fi)) (hg:∀s H C D,PG (inn X G T s H C D) tg (gT X.K g)) (hc:∀s H C D,PIfs (inn X G T s H C D) ifs fc) (he:∀s H C D,PE (inn X G T s H C D) elt (tV X.K l))
  (hclos:closureFor G X.env=pure (lT G X.env)) (hs:∀x,foldedSetIterable iter X.env x=pure x)
  (h:Inv X pins M H s) (r:Rel X.K F H m S) (a:RL X.K F H m M L) (q:aU fi j n g fc l L S=some (d,S2))
  (fin:∀p F' m' H' sx C,Inv X pins M H' sx->Stp F m H F' m' H'->Rel X.K F' H' m' S2->RP X.K F' H' d (.ref p)->H' C=none->X.s₀.heap.objs.size≤C->C≠X.env.locals->(∀x c,X.env.cells.lookup x=some c->c≠C)->(∀p ∈ X.pn++pins,p.1≠C) ->
   (∃mC,sx.heap.Ns C mC)->compPost (model X.prog X.w) X.A X.xe use k (.ref p) C (.ok .next) sx) :
  wpAny (model X.prog X.w) X.A (comprehension (.ListComp elt [⟨tg,iter,ifs,0⟩] G N) G X.env p2 (newList []) false (eval iter X.env) use) k X.xe s:=by
 obtain⟨V,S1,e1,q⟩:=ai q;split at q;case isFalse=>cases q
 rename_i hfew;obtain⟨ys,S2',e2,q⟩:=ai q;cases q;refine wpAny_comprehension_free (use:=use) rfl hs hclos B.kind B.loc (cG (hi pins s M H _ h ⟨F,m,L,S,V,S1,r,a,e1,λJ Y m1 I s1 r1 it=>(show(λJ I=>∃Y m1,Stp F m H Y m1 I/\Rel X.K Y I m1 S1/\FS X.K J V Y m1 I) J I from ⟨Y,m1,s1,r1,it⟩)⟩) λxv sA hA=>cG hA λitv P h2=>?_);obtain⟨it,D,tn,J,U,rfl,I2,t,st2,f2,Y,m1,s1,r1,itp⟩:=h2;have hfp:∀b ∈ D,b < P.heap.objs.size:=λb E=>by obtain⟨o,e,_⟩:=t.obj _ _ st2 b E;exact Heap.lt_size e
 refine wpAny_newObj_type ?_ (by show 0≤sizeLine;exact Nat.zero_le _);refine wpAny_newFunctionEnv B.cell (by intro y hy;simp at hy) (λh1 hns1 hsb1=>?_) B.kind;dsimp only at hns1 hsb1 ⊢;have hD:U P.heap.objs.size=none:=I2.hok.fresh (Nat.le_refl _);generalize hH2:P.heap.push { cls:=.type "list",dict:=none,data:=.seq ([]:LV).toArray }=K at hns1 hsb1 ⊢;have hC:K.objs.size=P.heap.objs.size+1:=by rw[<- hH2,Heap.size_push]
 have A:P.heap.objs.size≤K.objs.size:=by rw[hC];exact mL _
 have old:∀b o,P.heap.get? b=some o->h1.get? b=some o:=λb o e=>hsb1.extBut b o (b0 (cj (Heap.lt_size e) A)) (Heap.get?_push_of_some _ (hH2 ▸ Heap.get?_push_of_some _ e));have hDC:P.heap.objs.size≠K.objs.size:=by rw[hC];exact b0 (qd _)
 have accO:h1.get? P.heap.objs.size=some { cls:=.type "list",dict:=none,data:=.seq ([]:LV).toArray }:=hsb1.extBut _ _ hDC (Heap.get?_push_of_some _ (hH2 ▸ Heap.get?_push_size _ rfl));have hCn:U K.objs.size=none:=I2.hok.fresh A;have hCcell:∀x c,X.env.cells.lookup x=some c->c≠K.objs.size:=λx c e z=>by obtain⟨v,o,ho,_⟩:=I2.cell x c e;exact absurd (Heap.lt_size ho) (Nat.not_lt.mpr (by rw[z];exact A))
 have hCloc:K.objs.size≠X.env.locals:=cE (cj I2.lt A);have hCpin:∀p ∈ X.pn++pins,p.1≠K.objs.size:=λp hp z=>absurd (Heap.lt_size (I2.pin p hp).1) (Nat.not_lt.mpr (by rw[z];exact A));have I3:=Ch (tk:=P.toks+([]:List (Str×Value)).length) B I2 A f2 hfp old hD hDC hCn hns1 accO;have okX:=zW (k:=K.objs.size) B I2 A f2 hfp;have fpH:∀{H':Hp},(∀b ∈ D,H' b=none)->∀b ∈ D,sR (inn X G T P U K.objs.size D) [] H' b:=λhn b E=>
  ⟨hn b E,b0 (cj (hfp b E) A),okX.exfs b E,.inl E,(okX.exf b E).2,λp hp=>absurd (show p ∈ ([]:PN) from hp) (by simp)⟩
 have tn1:tn 0 h1:=t.keep _ _ _ st2 λb E o e=>old b o e;have loop:∀s3:Shared,s3={ P with heap:=h1,toks:=P.toks+([]:List (Str×Value)).length } ->
   codeAny (model X.prog X.w) X.A (.compLoop (.ListComp elt [⟨tg,iter,ifs,0⟩] G N) 0 (.ref it) (.ref P.heap.objs.size) (compEnvC G (lT G X.env) K.objs.size X.env))
    (compPost (model X.prog X.w) X.A X.xe use k (.ref P.heap.objs.size) K.objs.size) s3:=by
  rintro s3 rfl;refine x9 (cIv X.K (inn X G T P U K.objs.size D) Y m1 U P.heap.objs.size tn D (λnn i L' O ck=>nn=V.length-i/\i≤V.length/\a_ g fc l (V.drop i) L' O=some (ck,S2)) ys) ?_ V.length ?_
  .rintro nn sx ⟨i,σ',F',m',H',L',O,acc,ck,xs,I',tn',fr',st',r',l',hacc,ra,hal,nF,nm,⟨rfl,hi',R⟩,rfl⟩;obtain⟨hgo,hstop⟩:=itp F' m' H' st';by_cases hlt:i < V.length
   .have hv:V[i]? = some V[i]:=by simp[hlt]
    rw[List.drop_eq_getElem_cons hlt]at R;obtain⟨hgo1,hy⟩:=hgo i _ hv;refine wpAny_mono (t.item (inn X G T P U K.objs.size D) rfl rfl rfl hcalm i [] sx σ' H' (λ_ _=>False) I' (fpH fr') tn' hgo1) (λrr sy hr=>?_) (λ_ _ f=>f.elim);obtain⟨u,rfl,hr⟩:=hr;refine wpAny_mono hr (λ_ sz hz=>?_) (λ_ _ f=>f.elim);obtain⟨x,H3,I4,rx,yl,tn4,fr4⟩:=hz;obtain⟨F3,gr,p3⟩:=hy x H3 yl;have CB:Stp Y m1 U F3 m' H3:=st'.trans gr.stp;have r4:=r'.grow gr;have l4:=l'.mono (gr.stp (m:=m'));have acc4:=gr.keep _ _ hacc;have nF4:¬F3 P.heap.objs.size:=λz=>by
     rcases gr.nf _ z with z|⟨z,_⟩
     .exact nF z
     .rw [hacc]at z;cases z
    have I4':=I4.pinned (fpH fr4) (t.obj _ _ tn4);have back:∀{σ7:L2.St}{H7:Hp}{s7:Shared},Inv (inn X G T P U K.objs.size D) ([]++lz D sz.heap) σ7 H7 s7->tn (i+1) s7.heap/\∀b ∈ D,H7 b=none:=λ{σ7 H7 s7} I7=>
     ⟨t.keep _ _ _ tn4 λb E o e=>(I7.pin (b,o) (e_ _ (e_ _ (iJ E e)))).1,λb E=>by obtain⟨o,e,dd⟩:=t.obj _ _ tn4 b E;exact(I7.pin (b,o) (e_ _ (e_ _ (iJ E e)))).2.1⟩
    unfold a_ at R;cases eg:g V[i] L' with
    |none=>rw[eg]at R;cases R
    |some L1=>
     rw[eg]at R;dsimp only at R;obtain⟨kk,S5,e5,R⟩:=ai R;refine wpAny_mono (hg P U K.objs.size D _ sz σ' H3 x u (λQ H5=>H5=H3/\RL X.K F3 H3 m' Q L1) I4' rx ⟨F3,m',L',V[i],L1,l4,p3,eg,λQ l5=>⟨rfl,l5⟩⟩) (λ_ s5 h5=>?_) (λ_ _ f=>f.elim);obtain⟨Q,H5,I5,rfl,l5⟩:=h5;have test:wpAny (model X.prog X.w) X.A (forIn ifs true λc r=>if r=true then do let ok <- isTrue c (compEnvC G (lT G X.env) K.objs.size X.env) (eval c (compEnvC G (lT G X.env) K.objs.size X.env));pure (ForInStep.yield ok) else pure (ForInStep.yield r))
       (λok s6=>ok=kk/\∃W m6 H6,Inv (inn X G T P U K.objs.size D) ([]++lz D sz.heap) Q H6 s6/\Stp F3 m' H5 W m6 H6/\Rel X.K W H6 m6 S5) (λ_ _=>False) s5:=by
      have hcc:=hc P U K.objs.size D;cases hcc with
      |none=>cases e5;exact wpAny_tests_nil ⟨rfl,F3,m',H5,I5,.refl,r4⟩
      |one hq=>refine wpAny_tests_one (wpAny_mono (hq _ s5 Q H5 (λb H6=>b=kk/\∃W m6,Stp F3 m' H5 W m6 H6/\Rel X.K W H6 m6 S5) I5 ⟨F3,m',L1,O,kk,S5,r4,l5,e5,λW m6 H6 s6 r6=>⟨rfl,W,m6,s6,r6⟩⟩) (λb s6 h6=>?_) λ_ _ f=>f);obtain⟨H6,I6,rfl,W,m6,yI,r6⟩:=h6;exact⟨rfl,W,m6,H6,I6,yI,r6⟩
     refine wpAny_mono test (λok s6 h6=>?_) (λ_ _ f=>f.elim);obtain⟨rfl,W,m6,H6,I6,yI,r6⟩:=h6;have Z:=yI.oth _ _ acc4 nm;have nm6:P.heap.objs.size ∉ m6:=λz=>by
      rcases yI.nm _ z with z|z
      .exact nm z
      .rw [acc4]at z;cases z
     have nF6:¬W P.heap.objs.size:=λz=>by
      rcases yI.nf _ z with z|z|z
      .exact nF4 z
      .rw [acc4]at z;cases z
      .exact nm z
     have ra6:=ci.mono yI (ra.grow gr);have l6:=l5.mono yI;cases ok with
     |false=>rw[if_neg bO]at R ⊢;obtain⟨t7,f7⟩:=back I6;exact⟨V.length-(i+1),by lia,i+1,Q,W,m6,H6,L1,S5,acc,ck,xs,I6.pins_of λp hp=>absurd hp (by simp),t7,f7,CB.trans yI,r6,l6,Z,ra6,Nat.le_succ_of_le hal,nF6,nm6,⟨rfl,hlt,R⟩,rfl⟩
     |true=>
      rw[if_pos rfl]at R ⊢;obtain⟨y,S8,e8,R⟩:=ai R;obtain⟨zs,S9,e9,R⟩:=ai R;cases R;refine wpAny_mono (he P U K.objs.size D _ s6 Q H6 (λv8 H8=>∃F8 m8,Stp W m6 H6 F8 m8 H8/\Rel X.K F8 H8 m8 S8/\RP X.K F8 H8 y v8) I6 ⟨W,m6,L1,S5,y,S8,r6,l6,e8,λv8 F8 m8 H8 s8 r8 p8=>⟨F8,m8,s8,r8,p8⟩⟩) (λu8 s8 h8=>?_) (λ_ _ f=>f.elim);obtain⟨v8,H8,I8,rv8,F8,m8,st8,r8,p8⟩:=h8;have acc8:=st8.oth _ _ Z nm6;have nm8:P.heap.objs.size ∉ m8:=λz=>by
       rcases st8.nm _ z with z|z
       .exact nm6 z
       .rw [Z]at z;cases z
      have nF8:¬F8 P.heap.objs.size:=λz=>by
       rcases st8.nf _ z with z|z|z
       .exact nF6 z
       .rw [Z]at z;cases z
       .exact nm6 z
      have ra8:=ci.mono st8 ra6;have nt8:∀zs,H8 P.heap.objs.size≠some (.tup zs):=λzs z=>by rw[acc8]at z;cases z
      have hl8:xs.length < sizeLine:=by have h9:V.length≤1000000:=of_decide_eq_true hfew;rw[<- ra8.length];exact cj (lh hal hlt) (aM h9 (by decide))
      refine wpAny_mono (pK (X:=inn X G T P U K.objs.size D) _ s8 Q H8 (.ref P.heap.objs.size) [v8] (.ref P.heap.objs.size) [u8] (λ_ H9=>H9=cg H8 P.heap.objs.size (.lst (xs++[v8]))) I8 rfl (.cons rv8 .nil) ⟨_,xs,v8,rfl,rfl,acc8,hl8,rfl⟩) (λ_ s9 h9=>?_) (λ_ _ f=>f.elim);obtain⟨_,H9,I9,_,rfl⟩:=h9;obtain⟨t9,f9⟩:=back I9;have kb:Kp F8 m8 H8 F8 m8 (cg H8 P.heap.objs.size (.lst (xs++[v8]))):=Kp.bump nF8 nt8;have st9:Stp Y m1 U F8 m8 (cg H8 P.heap.objs.size (.lst (xs++[v8]))):=(CB.trans (yI.trans st8)).bump hD;have l9:RL X.K F8 (cg H8 P.heap.objs.size (.lst (xs++[v8]))) m8 Q L1:=⟨l6.len,λw dd e=>by obtain⟨v,e1,rr⟩:=(l6.mono st8).at' w dd e;exact⟨v,e1,RD.kp kb rr⟩⟩
      exact⟨V.length-(i+1),by lia,i+1,Q,F8,m8,_,L1,S8,acc++[y],zs,xs++[v8],I9.pins_of fun p hp=>absurd hp (by simp),t9,f9,st9,r8.bump nF8 nm8 nt8,l9,aJ,
       ci.kp kb (ra8.append ⟨v8,[],rfl,p8,rfl⟩),by rw[cJ];exact Nat.succ_le_succ hal,nF8,nm8,⟨rfl,hlt,e9⟩,by simp⟩
   .have e:i=V.length:=by lia
    subst e;rw[qw]at R;cases R;refine wpAny_mono (t.done (inn X G T P U K.objs.size D) rfl rfl rfl hcalm V.length [] sx σ' H' (λ_ _=>False) I' (fpH fr') tn' hstop) (λrr sy hr=>?_) (λ_ _ f=>f.elim);obtain⟨rfl,I5⟩:=hr;rw[List.append_nil] at *
    have Iout:Inv X pins M H' sy:=I2.call' (N:=D) I5.os I5.base I5.hok I5.bare λb E=>⟨(f2 b E).2.2.2.1,(f2 b E).2.1,(f2 b E).2.2.2.2.1,(f2 b E).2.2.2.2.2⟩;have hD0:H P.heap.objs.size=none:=by
     cases q:H P.heap.objs.size with
     |none=>rfl
     |some o=>exact absurd hD (s1.trk _ (by rw[q];exact λz=>nomatch z))
    have hCH:H' K.objs.size=none:=I5.free;obtain⟨mC,hmC,_⟩:=I5.loc;exact fin P.heap.objs.size (λb=>F' b\/b=P.heap.objs.size) m' H' sy K.objs.size Iout ((s1.trans st').addF hD0) (r'.addF nm (by rw[hacc];exact λz=>nomatch z))
     ⟨_,xs,rfl,⟨.inr rfl,hacc⟩,ci.kp (m:=m') Lp ra⟩ hCH (aM I2.sz A) hCloc hCcell hCpin ⟨mC,hmC⟩
  .exact⟨0,_,Y,m1,_,jK j n L,S1,[],ys,[],I3,tn1,λb E=>by rw[av (b0 (hfp b E))];exact(f2 b E).1,(b9 hD).stp,r1.grow (b9 hD),((a.mono s1).mono (b9 hD).stp).up j n,aJ,rfl,Nat.zero_le _,r1.fresh_F hD,r1.fresh_m hD,⟨rfl,Nat.zero_le _,by rw[mN];exact e2⟩,rfl⟩
 exact codeAny_compStart_list (loop _ rfl) (t.self X.A 0 _ _ _ tn1 (loop _ rfl))
theorem Gb(B:BlockOk X G T j n)(c:X.calm=true)
  (D:PI X tg iter (tI X.K fi)) (A:∀s H C f,PG (inn X G T s H C f) tg (gT X.K g)) (K:∀s H C f,PIfs (inn X G T s H C f) J fc) (P:∀s H C f,PE (inn X G T s H C f) t (tV X.K l))
  (o:closureFor G X.env=pure (lT G X.env)) (E:∀x,foldedSetIterable iter X.env x=pure x:=by intro _;rfl) :
  PE X (.ListComp t [⟨tg,iter,J,0⟩] G N) (tV X.K (aU fi j n g fc l)):=by
 intro i s M H h I ⟨F,m,L,S,d,O,r,a,q,k⟩;rw[eval_ListComp];refine pX B c D A K P o E I r a q λp F' m' H' sx C b Q V W z v w u y R=>?_
 obtain⟨U,e⟩:=R;exact⟨U,e,λZ Y=>⟨.ref p,H',b.letGo Y z v w u y,rfl,k _ F' m' H' Q V W⟩⟩
set_option tactic.hygienic true in
theorem F0(i:Nat)(hN:X.N.Nodup)(B:BlockOk X G T j n)(c:X.calm=true)
  (hi:PI X tg iter (tI X.K fi)) (hg:∀s H C f,PG (inn X G T s H C f) tg (gT X.K g)) (hc:∀s H C f,PIfs (inn X G T s H C f) J fc) (he:∀s H C f,PE (inn X G T s H C f) t (tV X.K l))
  (o:closureFor G X.env=pure (lT G X.env)) (P:swapsWith (.ListComp t [⟨tg,iter,J,0⟩] G N) (some (.Name x px)) spos.line X.env=pure true:=by rfl)
  (hs:∀x,foldedSetIterable iter X.env x=pure x:=by intro _;rfl) (z:X.N[i]? = some x:=by rfl) (hx:Loc X.env.scope x:=by first|exact Or.inl rfl|exact Or.inr rfl)
  (hf:X.fn x=true\/X.env.scope.names.lookup x=some .local:=by first|exact .inl rfl|exact .inr rfl|assumption) :
  PS X (.Assign [.Name x px] (.ListComp t [⟨tg,iter,J,0⟩] G N) spos) (kx X.K (am i (eV (aU fi j n g fc l)))):=by
 intro u s M H D I ⟨F,m,L,S,fl,L',O,r,h,q,k⟩;obtain⟨d,S1,W,q⟩:=ai q;cases q;obtain⟨v,S2,Y,Z⟩:=ai W;cases Z;rw[exec_Assign_Name_used _ _ _ _ P];refine wpAny_bind (wpAny_standAt (wpAny_bind ?_));show wpAny _ _ (do let _ <- comprehension (.ListComp t [⟨tg,iter,J,0⟩] G N) G X.env _ (newList []) false (eval iter X.env) (some (assign (.Name x px) X.env))) _ _ s;refine wpAny_bind (wpAny_mono (pX (use:=some (assign (.Name x px) X.env)) (k:=λ_ A=>SP X u D .next A) B c hi hg hc he o hs I r h Y λp F' m' H' sx C V Q r' rp hC h0 R U h3 hz=>?_) (λ_ A hq=>wpAny_pure (wpAny_pure hq)) λ_ _ e=>e);obtain⟨mC,K⟩:=hz;refine wpAny_assign_Name (pD V hN z hx (v:=.ref p) rfl (λA y w=>?_) hf);refine⟨mC,?_,λh' sb=>⟨_,H',y.letGo sb hC h0 R U h3,k _ F' m' H' Q r' ((h.mono Q).set (d:=.p v) rp i)⟩⟩;obtain⟨a,E,b⟩:=w;refine K.sameBut E ?_;rcases b with b|b
 .rw [b];exact R
 .exact Ne.symm (U x a b)
end
end Ev
namespace Ev
open PySem PySem.Spec PyProof.Rows L2
section
variable{X:Cx}{a b e:Expr}{es:Ab}{C U:EV}{fs:gf}{J p:Pos}
noncomputable def vK:P->Option P
 | .int i=>some (.int (-i))
 |_=>none
theorem JM(f:PE X a (tV X.K C)):PE X (.UnaryOp .USub a J) (tV X.K (Dw vK C)):=(G2 Dy f).imp' λN H Q z=>by
 obtain⟨F,m,L,S,d,t,r,l,q,k⟩:=z;obtain⟨x,w,n,q⟩:=ai q;cases x with
 |int i=>cases q;exact⟨F,m,L,S,_,_,r,l,n,λv h b e s c p=>⟨i,p,k _ h b e s c rfl⟩⟩
 |_=>cases q
noncomputable def Ld:P->String
 | .non=>"NoneType"
 | .bl _=>"bool"
 | .int _=>"int"
 | .str _=>"str"
 | .tup _=>"tuple"
 | .lst _=>"list"
 | .ro _=>"list"
 | .dct _ _=>"dict"
def zP(T:String)(v:P):Bool:=Ld v == T ||(T == "int" && Ld v == "bool")
noncomputable def jq:List P->Option P
 | [.int i]=>some (.int i)
 | [.bl b]=>some (.int (if b then 1 else 0))
 |_=>none
theorem xp{K:FG}{F:Aa}{H:Hp}{d:P}{s:List V}(r:ci K F H [d] s):∃x,s=[x]/\RP K F H d x:=by obtain⟨x,h,rfl,p,a⟩:=r;cases (show h=[] from a);exact⟨x,rfl,p⟩
theorem Ck:eF X (.type "int") (rC X.K jq):=by
 intro B s N H n u Q I r h;obtain⟨F,e,d,f,a,q,k⟩:=h;unfold jq at q;split at q
 .cases q;obtain⟨x,rfl,p⟩:=xp a;exact pZ B s N H _ u Q I r (.inl ⟨_,by rw[show x=_ from p],k _ F H .refl rfl⟩)
 .cases q;obtain⟨x,rfl,p⟩:=xp a;exact pZ B s N H _ u Q I r (.inr ⟨_,by rw[show x=_ from p],k _ F H .refl rfl⟩)
 .cases q
noncomputable def mh:EE:=λ_ S=>some (.ref S.length,S++[.dct [] []])
theorem yr:PE X (.Dict [] [] J) (tE X.K mh):=zh.imp' λN H Q z=>by obtain⟨F,m,L,S,d,x,r,l,q,k⟩:=z;cases q;intro p h;refine k (.ref p) F (m++[p]) _ (gh h) (r.own h ⟨[],aJ,rfl,rfl⟩) ⟨p,rfl,?_⟩;rw[<- r.len,fB (Nat.le_refl _)];simp
noncomputable def oB(k:bB)(v:D):List bB->List D->List bB×List D
 |h::s,w::x=>if h=k then (h::s,v::x) else (h::(oB k v s x).1,w::(oB k v s x).2)
 |_,_=>([k],[v])
noncomputable def jF(d:D)(S:aD):Option (Nat×List bB×List D):=match d with
 | .ref i=>match S[i]? with
  |some (.dct k O)=>some (i,k,O)
  |_=>none
 |_=>none
set_option tactic.hygienic true in
theorem q_(h:jF r S=some (i,v,O)):r=.ref i/\S[i]? = some (.dct v O):=by
 unfold jF at h;split at h
 .split at h
  .rename_i e;cases h;exact⟨rfl,e⟩
  .cases h
 .cases h
def oR(o:EE)(k v:EV):ES:=λL S=>aG (v L S) λy x=>aG (o L x) λd a=>aG (k L a) λz h=>match jF d h,b8 z with
 |some (i,s,O),some e=>if (s.Nodup/\few s=true) then some (.nx,L,h.set i (.dct (oB e (.p y) s O).1 (oB e (.p y) s O).2)) else none
 |_,_=>none
theorem pH{K:FG}{F:Aa}{H:Hp}{m:List Addr}{k:bB}{y:D}{u:V}(t:RD K F H m y u):∀{v:List (bB×V)}{s:List D},(v.map (·.1)).Nodup->dm K F H m s (v.map (·.2)) ->
  (putK v k u).map (·.1)=(oB k y (v.map (·.1)) s).1/\dm K F H m (oB k y (v.map (·.1)) s).2 ((putK v k u).map (·.2))
 | [],s,_,r=>by have:s=[]:=j' r.length;subst this;exact⟨rfl,u,[],rfl,t,rfl⟩
 |(h,w)::v,[],_,r=>by have:=r.length;simp at this
 |(h,w)::v,d::s,i,r=>by
  obtain⟨x,G,e,E,j⟩:=r;rw[List.map_cons]at e i;injection e with o S;subst o;subst S;obtain⟨p,g⟩:=List.nodup_cons.mp i;simp only[List.map_cons,oB];by_cases n:h=k
  .subst n;rw[if_pos rfl];have f:putK ((h,w)::v) h u=(h,u)::v:=by
    unfold putK;rw[if_pos (by simp)];rw[List.map_cons,if_pos rfl];congr 1;have:∀l:List (bB×V),h ∉ l.map (·.1)->l.map (λa=>if a.1=h then (a.1,u) else a)=l:=by
     intro l;induction l with
     |nil=>intro _;rfl
     |cons q l C=>
      intro b;rw[List.map_cons]at b;have P:¬q.1=h:=λz=>b (by rw[<- z];exact List.mem_cons_self)
      rw[List.map_cons,if_neg P,C λz=>b (aS _ z)]
    exact this v p
   rw[f];exact⟨rfl,u,_,rfl,t,j⟩
  .rw [if_neg n];obtain⟨A,B⟩:=pH t g j;have f:putK ((h,w)::v) k u=(h,w)::putK v k u:=by
    unfold putK;rw[gC,br (show ¬(h,w).1=k from n),Bool.false_or];by_cases c:(v.any λa=>decide (a.1=k))=true
    .rw [if_pos c,if_pos c,List.map_cons,if_neg (show ¬(h,w).1=k from n)]
    .rw [if_neg c,if_neg c];rfl
   rw[f,List.map_cons,List.map_cons,A];exact⟨rfl,w,_,rfl,E,B⟩
set_option tactic.hygienic true in
theorem Jw{o i g:Expr}{T:EE}{k Y:EV}{G:Pos}(hu:X.A.units+1 < cLine)(ho:PE X o (tE X.K T))(hi:PE X i (tV X.K k))(hv:PE X g (tV X.K Y))(hs:swapsWith g (some (.Subscript o i G)) J.line X.env=pure false:=by rfl) :
  PS X (.Assign [.Subscript o i G] g J) (kx X.K (oR T k Y)):=(wn hu ho hi hv hs).imp' λD N H hz=>by
 obtain⟨F,m,L,S,fl,L',S',r,l,q,h⟩:=hz;obtain⟨y,E,e1,q⟩:=ai q;obtain⟨d,I,e2,q⟩:=ai q;obtain⟨z,M,e3,q⟩:=ai q;refine⟨F,m,L,S,y,E,r,l,e1,λv C V H1 c r1 p1=>?_⟩;refine⟨C,V,L,E,d,I,r1,l.mono c,e2,λx F2 m2 H2 p r2 p2=>?_⟩;refine⟨F2,m2,L,I,z,M,r2,(l.mono c).mono p,e3,λw n b f u B p3=>?_⟩;cases P:jF d M with
 |none=>rw[P]at q;cases q
 |some t=>
  obtain⟨j,ks,O⟩:=t;rw[P]at q;cases K:b8 z with
  |none=>rw[K]at q;cases q
  |some e=>
   rw[K]at q;dsimp only at q;split at q
   .rename_i U;cases q;obtain⟨rfl,es⟩:=q_ P;obtain⟨a,rfl,A⟩:=RD.mono u p2;obtain⟨s,R,hk,rs⟩:=B.obj j a _ A es;subst hk;have pv:RD X.K n f b (.p y) v:=RD.mono u (RD.mono p (show RD X.K C H1 V (.p y) v from p1));obtain⟨h1,h2⟩:=pH (k:=e) pv U.1 rs;cases (fS K p3);have W:∀Z,f a≠some (.tup Z):=λZ z=>by rw[R]at z;cases z
    have st:Stp n b f n b (cg f a (.dK (putK s e v))):=fM B A es trivial W;have hl:s.length < sizeLine:=by have Q:(s.map (·.1)).length≤1000000:=of_decide_eq_true U.2;rw[a9]at Q;exact lh Q (by decide)
    refine⟨a,_,rfl,uL.k R hl,?_⟩;exact h N n b _ (c.trans (p.trans (u.trans st))) (B.set A es trivial W ⟨_,aJ,h1,dm.mono st h2⟩) (((l.mono c).mono p).mono (u.trans st))
   .cases q
end
section
variable{X:Cx}{a b c e:Expr}{es:Ab}{C U q:EV}{fs:gf}{J p:Pos}
noncomputable def gM:List P->Option (List Int)
 | []=>some []
 | .int i::r=>(gM r).map (i::·)
 |_::_=>none
def ut:P->P->Option P
 | .dct s O,.dct k v=>if s=k/\s.Nodup/\(gM O).isSome=true/\gM O=gM v then some (.bl true) else none
 |x,y=>KY x y
theorem mq{k x:bB}{v:Value}{r:List (bB×Value)}(h:¬x=k):valueAt ((x,v)::r) k=valueAt r k:=by simp[valueAt,i9,h]
theorem mr{k:bB}{v:Value}{r:List (bB×Value)}:valueAt ((k,v)::r) k=some v:=by simp[valueAt,i9]
theorem tP{K:FG}{F:Aa}{H:Hp}{A:Around}{s:Shared}:∀{n h:List (bB×V)}{C w:List (bB×Value)}{g a:List P}{B:List Int},(n.map (·.1)).Nodup->n.map (·.1)=h.map (·.1)->KV n C->KV h w ->
  ci K F H g (n.map (·.2))->ci K F H a (h.map (·.2))->gM g=some B->gM a=some B->∀{p:List (bB×Value)},(∀k v,valueAt w k=some v->k ∈ h.map (·.1)->valueAt p k=some v)->PySem.W.KeqHits A s p C true
 | [],[],C,w,g,a,B,R,e,Q,o,Y,Z,m,r,p,L=>by cases Q;exact .nil
 | [],_::_,_,_,_,_,_,_,e,_,_,_,_,_,_,_,_=>by simp at e
 |_::_,[],_,_,_,_,_,_,e,_,_,_,_,_,_,_,_=>by simp at e
 |(k,v)::n,(k',v')::h,C,w,g,a,B,R,e,Q,o,Y,Z,m,r,p,L=>by
  cases Q with
  | @cons _ q _ qs h1 t1=>
   cases o with
   | @cons _ q' _ qs' h2 t2=>
    obtain⟨kq,u⟩:=q;obtain⟨kq',u'⟩:=q';obtain⟨e1,rv⟩:=h1;obtain⟨e2,S⟩:=h2;dsimp only at e1 e2 rv S;subst e1;subst e2;rw[List.map_cons,List.map_cons]at e;injection e with ek er;dsimp only at ek;subst ek;rw[List.map_cons]at R;obtain⟨T,U⟩:=List.nodup_cons.mp R;cases g with
    |nil=>have:=ci.length Y;simp at this
    |cons d dr=>
     cases a with
     |nil=>have:=ci.length Z;simp at this
     |cons d' D=>
      obtain⟨x,xr,ex,p1,q1⟩:=Y;obtain⟨x',xr',j,W,X⟩:=Z;rw[List.map_cons]at ex j;injection ex with I J;injection j with l y;subst I J l y;cases d with
      |int i=>
       cases d' with
       |int f=>
        simp only[gM]at m r;cases E:gM dr with
        |none=>rw[E]at m;cases m
        |some js=>
         cases c:gM D with
         |none=>rw[c]at r;cases r
         |some O=>
          rw[E]at m;rw[c]at r;cases m;have N:f::O=i::js:=Option.some.inj r;injection N with z1 z2;subst z1;subst z2;cases (show v=.int f from p1);cases (show v'=.int f from W);obtain⟨t,rfl⟩:=rv;obtain⟨t',rfl⟩:=S;have hy:valueAt p k=some (.int f t'):=L k _ mr (by simp);have G:SeqAt.EqAt A s (.int f t) (.int f t') true:=by have:=SeqAt.EqAt.int_int (A:=A) (s:=s) f t f t';simpa using this
          have ck:=tP (A:=A) (s:=s) U er t1 t2 q1 X E c (p:=p) λo v2 hv M=>by
           refine L o v2 ?_ (aS _ M);have:¬k=o:=λz=>by subst z;rw[<- er]at M;exact T M
           rw[mq this];exact hv
          have:=PySem.W.KeqHits.hit (e:=true) (b:=true) hy G ck;exact this
       |_=>simp[gM]at r
      |_=>simp[gM]at m
set_option tactic.hygienic true in
theorem Hh(hu:X.A.units+1 < cLine):mK X (compareOp .Eq) ut:=by
 intro B s N H x y v u Q I S K h;obtain⟨F,n,f,d,G,l,z,q,k⟩:=h;have o:KY n f=some d->wpAny (model X.prog X.w) X.A (compareOp .Eq v u) (EP X B N Q) X.xe s:=λq=>Ks B s N H x y v u Q I S K ⟨F,n,f,d,G,l,z,q,k⟩
 cases n with
 |dct ks O=>
  cases f with
  |dct W vs'=>
   simp only[ut]at q;split at q
   .rename_i M;cases q;obtain⟨g,nd,V,R⟩:=M;obtain⟨a,Y,rfl,C,c,E,ra⟩:=l;obtain⟨b,j,rfl,U,m,p,rb⟩:=z;cases S;cases K;obtain⟨za,J,ws,r,P⟩:=wO I.hok c;obtain⟨zb,L,w,e,D⟩:=wO I.hok m;obtain⟨is,i⟩:=Option.isSome_iff_exists.mp V;subst E;have t:=tP (A:=X.A.in1) (s:=s) nd (by rw[p];exact g) r e ra rb i (by rw[<- R];exact i) (p:=w) λ_ _ h _=>h
    refine PySem.W.keq_eq J L P D (by lia) (λ_=>t) ?_;have T:ws.length=w.length:=by have l1:=r.length;have l2:=e.length;have Z:=congrArg List.length g;rw[<- p,a9,a9]at Z;lia
    rw[T];simp only[beq_self_eq_true,Bool.and_self];exact⟨.bl true,H,I,rfl,k _ F H .refl rfl⟩
   .cases q
  |_=>exact o q
 |_=>exact o q
def gR(a:EV):gf:=λL S=>aG (a L S) λv h=>match v with
 | .lst x=>some (x,h)
 | .ro x=>some (x,h)
 |_=>none
theorem iS{A iter:Expr}(h:PE X iter (tV X.K C)):PI X A iter (tI X.K (gR C)):=by
 intro B s N H R I ⟨F,m,L,S,O,G,r,l,q,k⟩;obtain⟨v,y,Q,q⟩:=ai q;refine cG (h B s N H (λx n=>∃f c,Stp F m H f c n/\Rel X.K f n c y/\RP X.K f n v x) I ⟨F,m,L,S,v,y,r,l,Q,λx f c n t z g=>⟨f,c,t,z,g⟩⟩) λu t P=>?_
 obtain⟨x,n,w,rx,f,c,st,z,g⟩:=P;have mk:∀{J:It},FS X.K J O f c n->y=G->R J n:=λW e=>by subst e;exact k _ f c n st z W
 have i:∀{a:Addr}{j:List V},x=.ref a->hX X.K n a j->R (Js X.K a) n->wpAny (model X.prog X.w) X.A (pyIter u) (Jp X B N A R) X.xe t:=λ{a j} e U q=>by
  subst e;cases rx;obtain⟨Y,rv,p,P⟩:=w.list U;refine wpAny_pyIter_list p.isList ?_;refine⟨t.heap.objs.size,[t.heap.objs.size],_,_,n,rfl,w.kept (t':=t.toks) λb o e=>Heap.get?_push_of_some _ e,xc a _,⟨_,Heap.get?_push_size _ rfl,rfl,rfl⟩,λb T=>?_,q⟩;have e:b=t.heap.objs.size:=by simpa using T
  subst e;exact w.fpOk (Nat.le_refl _) (w.hok.fresh (Nat.le_refl _))
 cases v with
 |lst M=>cases q;obtain⟨a,j,rfl,d,K⟩:=g;exact i rfl d.sq (mk (zN (λD Z E s=>(d.kp s.kp).sq) K) rfl)
 |ro M=>cases q;obtain⟨a,j,rfl,d,K⟩:=g;exact i rfl d.sq (mk (zN (λD Z E s=>(d.kp s.kp).sq) K) rfl)
 |_=>cases q
end
section
variable{X:Cx}{J p:Pos}
noncomputable abbrev DE:=List (Str×EV)
end
mutual
noncomputable def pd:P->PyData
 | .non=>.none
 | .bl b=>.bool b
 | .int i=>.int i
 | .str x=>.str x
 | .tup xs=>.tuple (i5 xs)
 | .lst xs=>.list (i5 xs)
 | .ro xs=>.list (i5 xs)
 | .dct _ _=>.none
noncomputable def i5:List P->List PyData
 | []=>[]
 |x::r=>pd x::i5 r
end
noncomputable def cb:Nat->P->Bool
 |_,.non=>true
 |_,.bl _=>true
 |_,.int _=>true
 |_,.str x=>PyData.strOk x
 |n+1,.tup s=>s.all (cb n)
 |n+1,.lst s=>s.all (cb n)
 |n+1,.ro s=>s.all (cb n)
 |_,_=>false
variable{n:Nat}
theorem m7:∀{s:List P},(∀d ∈ s,(pd d).canLay0=true/\(pd d).depth≤n)->PyData.canLayAll0 (i5 s)=true/\PyData.depthAll (i5 s)≤n
 | [],_=>⟨rfl,Nat.zero_le _⟩
 |d::r,h=>by obtain⟨⟨p,a⟩,q⟩:=List.forall_mem_cons.mp h;obtain⟨x,e⟩:=m7 q;exact⟨by simp only[i5,PyData.canLayAll0,p,x,Bool.and_self],by simp only[i5,PyData.depthAll];lia⟩
theorem eI:∀(n:Nat)(p:P),cb n p=true->(pd p).canLay0=true/\(pd p).depth≤n
 |_,.non,_=>⟨rfl,Nat.zero_le _⟩
 |_,.bl _,_=>⟨rfl,Nat.zero_le _⟩
 |_,.int _,_=>⟨rfl,Nat.zero_le _⟩
 |n,.str x,h=>⟨by cases n<;>exact h,Nat.zero_le _⟩
 |n,.dct _ _,h=>by cases n<;>cases h
 |0,.tup _,h=>by cases h
 |0,.lst _,h=>by cases h
 |0,.ro _,h=>by cases h
 |n+1,.tup s,h=>by obtain⟨a,b⟩:=m7 λd hd=>eI n d (bj.mp h d hd);exact⟨a,by simp only[pd,PyData.depth];lia⟩
 |n+1,.lst s,h=>by obtain⟨a,b⟩:=m7 λd hd=>eI n d (bj.mp h d hd);exact⟨a,by simp only[pd,PyData.depth];lia⟩
 |n+1,.ro s,h=>by obtain⟨a,b⟩:=m7 λd hd=>eI n d (bj.mp h d hd);exact⟨a,by simp only[pd,PyData.depth];lia⟩
theorem iH(h:cb 20 p=true):SeqAt.shaped (pd p)=true:=by obtain⟨x,a⟩:=eI 20 p h;unfold SeqAt.shaped;rw[x,Bool.true_and];exact ir (by lia)
section
variable{X:Cx}{B:PN}{N:L2.St}{H:Hp}{s:Shared}{F:Aa}
theorem gU(o:∀{p:P}{v:V}{u:Value},RP X.K F H p v->RelV v u->cb n p=true->∃k,Reads s.heap u (pd p) k) :
  ∀{f:List P}{a:List V}{b:LV},ci X.K F H f a->aK a b->(∀d ∈ f,cb n d=true)->∃k,ReadsAll s.heap b (i5 f) k
 | [],a,b,r,v,_=>by cases (show a=[] from r);cases v;exact⟨_,.nil⟩
 |d::f,a,b,r,v,h=>by
  obtain⟨x,i,rfl,p,r⟩:=r;cases v with
  |cons w t=>obtain⟨k,q⟩:=o p w (h d (.head _));obtain⟨g,m⟩:=gU o r t λe c=>h e (.tail _ c);exact⟨_,.cons q m⟩
theorem ib(I:Inv X B N H s):∀(n:Nat){p:P}{v:V}{u:Value},RP X.K F H p v->RelV v u->cb n p=true->∃w,Reads s.heap u (pd p) w:=by
 intro n;induction n with
 |zero=>
  intro p v u r k h;cases p with
  |non=>cases (show v=.non from r);cases k;exact⟨_,.none⟩
  |bl b=>cases (show v=.bl b from r);cases k;exact⟨_,.bool b⟩
  |int i=>cases (show v=.int i from r);obtain⟨t,rfl⟩:=k;exact⟨_,.int i t⟩
  |str x=>cases (show v=.str x from r);obtain⟨t,rfl⟩:=k;exact⟨_,.str x t⟩
  |_=>simp[cb]at h
 |succ n y=>
  intro p v u r k h;cases p with
  |non=>cases (show v=.non from r);cases k;exact⟨_,.none⟩
  |bl b=>cases (show v=.bl b from r);cases k;exact⟨_,.bool b⟩
  |int i=>cases (show v=.int i from r);obtain⟨t,rfl⟩:=k;exact⟨_,.int i t⟩
  |str x=>cases (show v=.str x from r);obtain⟨t,rfl⟩:=k;exact⟨_,.str x t⟩
  |dct A O=>simp[cb]at h
  |tup z=>obtain⟨a,K,rfl,l,j⟩:=r;cases k;obtain⟨g,f,⟨o,e,c,m,d⟩,S⟩:=I.tuple l.sq;obtain⟨w,q⟩:=gU y j f (by simpa[cb] using h);rw[pd];exact⟨w,reads_tuple_at e c d (by simpa using q)⟩
  |lst z=>obtain⟨a,K,rfl,l,j⟩:=r;cases k;obtain⟨g,f,⟨o,m,e,c,_,d⟩,S⟩:=I.list l.sq;obtain⟨w,q⟩:=gU y j f (by simpa[cb] using h);rw[pd];exact⟨_,reads_list_at e c d (by simpa using q)⟩
  |ro z=>obtain⟨a,K,rfl,l,j⟩:=r;cases k;obtain⟨g,f,⟨o,m,e,c,_,d⟩,S⟩:=I.list l.sq;obtain⟨w,q⟩:=gU y j f (by simpa[cb] using h);rw[pd];exact⟨_,reads_list_at e c d (by simpa using q)⟩
end
noncomputable def oT(f:D->Option P):List D->Option (List P)
 | []=>some []
 |d::r=>(f d).bind λv=>(oT f r).map λO=>v::O
def d4(S:aD):Nat->D->Option P
 |_,.p v=>some v
 |0,.ref _=>none
 |n+1,.ref i=>match S[i]? with
  |some (.lst d)=>(oT (d4 S n) d).map .lst
  |some (.fz v)=>some v
  |_=>none
@[simp] theorem u4(S:aD)(n:Nat)(v:P):d4 S n (.p v)=some v:=by cases n<;>rfl
section
variable{X:Cx}{B:PN}{N:L2.St}{H:Hp}{s:Shared}{F:Aa}{m:List Addr}{S:aD}
theorem nQ(o:∀{d:D}{v:V}{u:Value}{p:P},RD X.K F H m d v->RelV v u->d4 S n d=some p->cb L p=true->∃b,Reads s.heap u (pd p) b) :
  ∀{k:List D}{f:List V}{c:LV}{ps:List P},dm X.K F H m k f->aK f c->oT (d4 S n) k=some ps->(∀d ∈ ps,cb L d=true)->∃b,ReadsAll s.heap c (i5 ps) b
 | [],f,c,ps,r,v,q,_=>by cases (show f=[] from r);cases v;cases q;exact⟨_,.nil⟩
 |d::k,f,c,ps,r,v,q,h=>by
  obtain⟨x,A,rfl,p,r⟩:=r;obtain⟨y,i,q⟩:∃a,d4 S n d=some a/\(oT (d4 S n) k).map (λO=>a::O)=some ps:=by
   cases e:d4 S n d with
   |none=>simp[oT,e]at q
   |some a=>exact⟨a,rfl,by simpa[oT,e] using q⟩
  obtain⟨B,j,rfl⟩:∃a,oT (d4 S n) k=some a/\ps=y::a:=by
   cases e:oT (d4 S n) k with
   |none=>rw[e]at q;cases q
   |some a=>rw[e]at q;cases q;exact⟨a,rfl,rfl⟩
  cases v with
  |cons z l=>obtain⟨b,g⟩:=o p z i (h y (.head _));obtain⟨K,t⟩:=nQ o r l j λe w=>h e (.tail _ w);exact⟨_,.cons g t⟩
theorem dH(I:Inv X B N H s)(y:Rel X.K F H m S):∀(n k:Nat){d:D}{v:V}{u:Value}{p:P},RD X.K F H m d v->RelV v u->d4 S n d=some p->cb k p=true->∃b,Reads s.heap u (pd p) b:=by
 intro n;induction n with
 |zero=>
  intro k d v u p r x q h;cases d with
  |p w=>rw[u4]at q;cases q;exact ib I k r x h
  |ref i=>cases q
 |succ n C=>
  intro k d v u p r x q h;cases d with
  |p w=>rw[u4]at q;cases q;exact ib I k r x h
  |ref i=>
   obtain⟨a,rfl,g⟩:=r;have A:i < S.length:=by rw[<- y.len];exact(List.getElem?_eq_some_iff.mp g).1
   obtain⟨o,j⟩:∃o,S[i]? = some o:=⟨S[i],by simp[A]⟩;have l:=y.obj i a o g j;simp only[d4,j]at q;cases o with
   |fz w=>cases q;exact ib I k l x h
   |dct L t=>cases q
   |ins _ _ _=>cases q
   |exc _=>cases q
   |dtt _ _=>cases q
   |lst t=>
    dsimp only at q;cases e:oT (d4 S n) t with
    |none=>rw[e]at q;cases q
    |some O=>
     rw[e]at q;cases q;cases k with
     |zero=>simp[cb]at h
     |succ k=>obtain⟨Q,K,G⟩:=l;cases x;obtain⟨E,f,⟨o,M,z,c,_,d⟩,J⟩:=I.list (hX.of K);obtain⟨b,q⟩:=nQ (L:=k) (λr x q h=>C k r x q h) G f e (by simpa[cb] using h);rw[pd];exact⟨_,reads_list_at z c d (by simpa using q)⟩
theorem jA(l:Rel X.K F H m S)(r:RD X.K F H m u v)(q:d4 S n u=some p)(k:∀c,p≠.lst c):RP X.K F H p v:=by
 cases u with
 |p w=>rw[u4]at q;cases q;exact r
 |ref i=>
  cases n with
  |zero=>cases q
  |succ n=>
   obtain⟨a,rfl,h⟩:=r;have s:i < S.length:=by rw[<- l.len];exact(List.getElem?_eq_some_iff.mp h).1
   obtain⟨o,x⟩:∃o,S[i]? = some o:=⟨S[i],by simp[s]⟩;have b:=l.obj i a o h x;simp only[d4,x]at q;cases o with
   |fz w=>cases q;exact b
   |dct t d=>cases q
   |ins _ _ _=>cases q
   |exc _=>cases q
   |dtt _ _=>cases q
   |lst d=>
    dsimp only at q;cases e:oT (d4 S n) d with
    |none=>rw[e]at q;cases q
    |some f=>rw[e]at q;cases q;exact absurd rfl (k f)
end
inductive rEI(K:FG)(g:D->D->aD->Option P)(x:V)(y:V)(H:Hp)(Q:VK):Prop
 |mk (F:Aa) (m:List Addr) (S:aD) (d:D) (e:D) (v:P) (h0_:Rel K F H m S) (h1_:RD K F H m d x) (h2_:RD K F H m e y) (h3_:g d e S=some v) (h4_:∀u F' H',Grow F H F' H'->RP K F' H' v u->Q u H'):rEI K g x y H Q
noncomputable def rE(K:FG)(g:D->D->aD->Option P):R2:=λx y H Q=>rEI K g x y H Q
def az(g:D->D->aD->Option P)(a b:EE):EV:=λL S=>aG (a L S) λx e=>aG (b L e) λy h=>(g x y h).map λv=>(v,h)
section
variable{X:Cx}{a b:Expr}{C U:EE}{J:Pos}
theorem wd(h:tV X.K (az a0 C U) N H Q):DF (rE X.K a0) (tE X.K C) (tE X.K U) N H Q:=by
 obtain⟨F,m,L,S,d,o,r,l,q,k⟩:=h;obtain⟨x,a,K,q⟩:=ai q;obtain⟨y,s,P,q⟩:=ai q;refine⟨F,m,L,S,x,a,r,l,K,λv t A I b G B=>?_⟩;refine⟨t,A,L,a,y,s,G,l.mono b,P,λu p n J c f D=>?_⟩;cases e:a0 x y s with
 |none=>rw[e]at q;cases q
 |some z=>rw[e]at q;cases q;exact⟨p,n,o,x,y,_,f,RD.mono c B,D,e,λw i j g E=>k w i n j (b.trans (c.trans g.stp)) (f.grow g) E⟩
theorem Gc(o:ip X (compareOp v) (rE X.K r))(x:PE X a (tE X.K C))(e:PE X b (tE X.K U))(m:behindInMarks v b=false):PE X (.Compare a [v] [b] J) (tV X.K (az r C U)):=
 (wr o x e m).imp' λ_ _ _ h=>wd h
theorem F4(o:ip X (compareOp op) (rE X.K u))(c:PE X a (tE X.K C))(t:PE X b (tE X.K U))(w:behindInMarks op b=false):PT X (.Compare a [op] [b] J) (tQ X.K (bV (az u C U))):=
 (wm o c t w).imp' λN H Q h=>by
  refine wd ?_;obtain⟨F,m,L,S,d,j,r,l,q,k⟩:=h;obtain⟨x,y,f,q⟩:=ai q;cases x with
  |bl b=>cases q;exact⟨F,m,L,S,_,_,r,l,f,λv e g n s i p=>⟨_,p,k e g n s i⟩⟩
  |_=>cases q
end
def wK(x y:P):Option Bool:=match ut x y with
 |some (.bl b)=>some b
 |_=>if (cb 20 x && cb 20 y)=true then some (PyData.eqv (pd x) (pd y)) else none
def dC(d e:D)(S:aD):Option P:=(d4 S 9 d).bind λx=>(d4 S 9 e).bind λy=>(wK x y).map .bl
def uN(x y:P):Option Bool:=match dNe x y with
 |some (.bl b)=>some b
 |_=>if (cb 20 x && cb 20 y)=true then some (!PyData.eqv (pd x) (pd y)) else none
def ma(d e:D)(S:aD):Option P:=(d4 S 9 d).bind λx=>(d4 S 9 e).bind λy=>(uN x y).map .bl
noncomputable def jR(c:D)(S:aD):Option (List bB):=match c with
 | .p (.dct k _)=>some k
 | .ref i=>match S[i]? with
  |some (.dct k _)=>some k
  |some (.fz (.dct k _))=>some k
  |_=>none
 |_=>none
def Fz(x c:P):Option Bool:=match c with
 | .lst s=>if (s.all (cb 19) && cb 19 x)=true then some (s.any λy=>PyData.eqv (pd y) (pd x)) else none
 |_=>none
noncomputable def xQ(k:bB)(s:List bB):Bool:=s.any λh=>decide (h=k)
def B3(d c:D)(S:aD):Option Bool:=match jR c S with
 |some s=>(d4 S 9 d).bind λx=>(b8 x).map λk=>xQ k s
 |none=>(d4 S 9 d).bind λx=>(d4 S 9 c).bind λy=>Fz x y
def C0(d c:D)(S:aD):Option P:=(B3 d c S).map .bl
def n2(d c:D)(S:aD):Option P:=(B3 d c S).map λb=>.bl (!b)
noncomputable def de:D->Bool
 | .p .non=>true
 |_=>false
def pS(d e:D)(_:aD):Option P:=match e with
 | .p .non=>some (.bl (de d))
 |_=>none
def c_(d e:D)(_:aD):Option P:=match e with
 | .p .non=>some (.bl (!de d))
 |_=>none
theorem vL(h:ut x r=some b):(∀s,x≠.lst s)/\∀s,r≠.lst s:=by
 refine⟨λs e=>?_,λs e=>?_⟩
 .subst e;cases r<;>cases h
 .subst e;cases x<;>cases h
section
variable{X:Cx}
set_option tactic.hygienic true in
theorem Hg(o:X.A.units+64 < cLine):ip X (compareOp .Eq) (rE X.K dC):=by
 intro B s N H x y v u Q I j z h;obtain⟨F,m,S,d,e,r,l,g,i,q,k⟩:=h;unfold dC at q;cases t:d4 S 9 d with
 |none=>rw[t]at q;cases q
 |some a=>
  rw[t]at q;cases p:d4 S 9 e with
  |none=>rw[p]at q;cases q
  |some b=>
   rw[p]at q;simp only[lc]at q;cases n:wK a b with
   |none=>rw[n]at q;cases q
   |some c=>
    rw[n]at q;cases q;unfold wK at n;split at n
    .rename_i G w;cases n;obtain⟨K,P⟩:=vL w;exact Hh (by lia) B s N H x y v u Q I j z ⟨F,a,b,.bl c,l.ft,jA l g t K,jA l i p P,w,k⟩
    .split at n
     .rename_i f;rw[Bool.and_eq_true]at f;cases n;obtain⟨D,A⟩:=dH I l 9 20 g j t f.1;obtain⟨E,C⟩:=dH I l 9 20 i z p f.2;exact eq_dataH A C (iH f.1) (iH f.2) o ⟨.bl _,H,I,rfl,k _ F H .refl rfl⟩
     .cases n
theorem x6(h:dNe x r=some b):(∀s,x≠.lst s)/\∀s,r≠.lst s:=by
 refine⟨λs e=>?_,λs e=>?_⟩
 .subst e;cases r<;>cases h
 .subst e;cases x<;>cases h
set_option tactic.hygienic true in
theorem Ha(o:X.A.units+64 < cLine):ip X (compareOp .NotEq) (rE X.K ma):=by
 intro B s N H x y v u Q I j z h;obtain⟨F,m,S,d,e,r,l,g,i,q,k⟩:=h;unfold ma at q;cases t:d4 S 9 d with
 |none=>rw[t]at q;cases q
 |some a=>
  rw[t]at q;cases p:d4 S 9 e with
  |none=>rw[p]at q;cases q
  |some b=>
   rw[p]at q;simp only[lc]at q;cases n:uN a b with
   |none=>rw[n]at q;cases q
   |some c=>
    rw[n]at q;cases q;unfold uN at n;split at n
    .rename_i G w;cases n;obtain⟨K,P⟩:=x6 w;exact Km B s N H x y v u Q I j z ⟨F,a,b,.bl c,l.ft,jA l g t K,jA l i p P,w,k⟩
    .split at n
     .rename_i f;rw[Bool.and_eq_true]at f;cases n;obtain⟨D,A⟩:=dH I l 9 20 g j t f.1;obtain⟨E,C⟩:=dH I l 9 20 i z p f.2;exact ne_dataH A C (iH f.1) (iH f.2) o ⟨.bl _,H,I,rfl,k _ F H .refl rfl⟩
     .cases n
theorem mX(x:P):∀s:List P,(i5 s).any (λy=>PyData.eqv y (pd x))=s.any λy=>PyData.eqv (pd y) (pd x)
 | []=>rfl
 |y::r=>by rw[i5,gC,gC,mX x r]
theorem zx(h:r.all (cb 19)=true):PyData.canLayAll0 (i5 r)=true/\PyData.depthAll (i5 r)≤20:=by have l:=eI 20 (.lst r) h;simp only[pd,PyData.canLay0,PyData.depth]at l;have x:=l.2;exact⟨l.1,by lia⟩
theorem pk:(fR u v).isSome=xQ v (u.map (·.1)):=by
 induction u with
 |nil=>rfl
 |cons p r i=>
  unfold xQ at i ⊢;by_cases h:p.1=v
  .rw [gF h,List.map_cons,gC,ir h];rfl
  .rw [fQ h,i,List.map_cons,gC,br h];rfl
set_option tactic.hygienic true in
theorem ur{K:FG}{F:Aa}{H:Hp}{m:List Addr}{S:aD}{c:D}{y:V}{n:List bB}(r:Rel K F H m S)(p:RD K F H m c y)(q:jR c S=some n):∃a k,y=.ref a/\H a=some (.dK k)/\k.map (·.1)=n:=by
 unfold jR at q;split at q
 .cases q;obtain⟨a,k,e,_,x,h,_⟩:=p;exact⟨a,k,e,x,h⟩
 .rename_i i;obtain⟨a,rfl,s⟩:=p;split at q
  .rename_i o;cases q;obtain⟨k,x,h,_⟩:=r.obj i a _ s o;exact⟨a,k,rfl,x,h⟩
  .rename_i o;cases q;obtain⟨b,k,e,_,x,h,_⟩:=r.obj i a _ s o;cases e;exact⟨a,k,rfl,x,h⟩
  .cases q
 .cases q
set_option tactic.hygienic true in
theorem He(R:X.A.units+64 < cLine):ip X (compareOp .In) (rE X.K C0):=by
  intro B s N H x y v u Q I o K h;obtain⟨F,m,S,d,e,r,l,g,i,q,k⟩:=h;unfold C0 B3 at q;cases w:jR e S with
  |some T=>
    rw[w]at q;dsimp only at q;cases t:d4 S 9 d with
    |none=>rw[t]at q;cases q
    |some a=>
      rw[t]at q;simp only[lc]at q;cases f:b8 a with
      |none=>rw[f]at q;cases q
      |some C=>
        rw[f]at q;cases q;obtain⟨b,D,rfl,A,n⟩:=ur l i w;have J:RP X.K F H a x:=jA l g t λV z=>by subst z;cases f
        cases K;cases fS f J;exact KS (by lia) I (hZ.k A) o λU P=>⟨.bl _,H,P,rfl,by rw[pk,n];exact k _ F H .refl rfl⟩
  |none=>
    rw[w]at q;dsimp only at q;cases t:d4 S 9 d with
    |none=>rw[t]at q;cases q
    |some a=>
      rw[t]at q;cases f:d4 S 9 e with
      |none=>rw[f]at q;cases q
      |some b=>
        rw[f]at q;simp only[lc]at q;cases n:Fz a b with
        |none=>rw[n]at q;cases q
        |some c=>
          rw[n]at q;cases q;unfold Fz at n;split at n;all_goals first
            |(cases n;done)
            | (split at n
               · rename_i p
                 rw[Bool.and_eq_true]at p;cases n;obtain⟨M,j⟩:=dH I l 9 20 i K f (by simpa[cb] using p.1);obtain⟨O,L⟩:=dH I l 9 19 g o t p.2;have E:=zx p.1;have G:=eI 19 _ p.2;rw[pd]at j;first
                   |exact SeqAt.in_list_reads j L E.1 G.1 (by lia) ⟨.bl _,H,I,rfl,by rw[mX];exact k _ F H .refl rfl⟩
               · cases n)
set_option tactic.hygienic true in
theorem zt(R:X.A.units+64 < cLine):ip X (compareOp .NotIn) (rE X.K n2):=by
  intro B s N H x y v u Q I A C h;obtain⟨F,m,S,d,e,r,l,o,K,q,k⟩:=h;unfold n2 B3 at q;cases w:jR e S with
  |some T=>
    rw[w]at q;dsimp only at q;cases t:d4 S 9 d with
    |none=>rw[t]at q;cases q
    |some a=>
      rw[t]at q;simp only[lc]at q;cases f:b8 a with
      |none=>rw[f]at q;cases q
      |some G=>
        rw[f]at q;cases q;obtain⟨b,J,rfl,E,n⟩:=ur l K w;have L:RP X.K F H a x:=jA l o t λV z=>by subst z;cases f
        cases C;cases fS f L;exact Cb (by lia) I (hZ.k E) A λU D=>⟨.bl _,H,D,rfl,by rw[pk,n];exact k _ F H .refl rfl⟩
  |none=>
    rw[w]at q;dsimp only at q;cases t:d4 S 9 d with
    |none=>rw[t]at q;cases q
    |some a=>
      rw[t]at q;cases f:d4 S 9 e with
      |none=>rw[f]at q;cases q
      |some b=>
        rw[f]at q;simp only[lc]at q;cases n:Fz a b with
        |none=>rw[n]at q;cases q
        |some c=>
          rw[n]at q;cases q;unfold Fz at n;split at n;all_goals first
            |(cases n;done)
            | (split at n
               · rename_i p
                 rw[Bool.and_eq_true]at p;cases n;obtain⟨M,g⟩:=dH I l 9 20 K C f (by simpa[cb] using p.1);obtain⟨O,P⟩:=dH I l 9 19 o A t p.2;have i:=zx p.1;have j:=eI 19 _ p.2;rw[pd]at g;first
                   |exact SeqAt.notIn_list_reads g P i.1 j.1 (by lia) ⟨.bl _,H,I,rfl,by rw[mX];exact k _ F H .refl rfl⟩
                   |exact SeqAt.notIn_tuple_reads g P i.1 j.1 (by lia) ⟨.bl _,H,I,rfl,by rw[mX];exact k _ F H .refl rfl⟩
               · cases n)
theorem Hd:ip X (compareOp .Is) (rE X.K pS):=by
 intro B s N H x y v u Q I c t h;obtain⟨F,m,S,d,e,r,l,n,f,q,k⟩:=h;unfold pS at q;split at q
 .cases q;cases (show y=.non from f);refine Ed B s N H x _ v u Q I c t ⟨rfl,?_⟩;have:decide (x=.non)=de d:=by
   cases d with
   |ref i=>obtain⟨a,rfl,_⟩:=n;rfl
   |p w=>
    cases w with
    |non=>cases (show x=.non from n);rfl
    |bl b=>cases (show x=.bl b from n);rfl
    |int b=>cases (show x=.int b from n);rfl
    |str b=>cases (show x=.str b from n);rfl
    |_=>(obtain⟨a,g,rfl,_⟩:=n;rfl)
  rw[this];exact k _ F H .refl rfl
 .cases q
theorem zu:ip X (compareOp .IsNot) (rE X.K c_):=by
 intro B s N H x y v u Q I c t h;obtain⟨F,m,S,d,e,r,l,n,f,q,k⟩:=h;unfold c_ at q;split at q
 .cases q;cases (show y=.non from f);refine BF B s N H x _ v u Q I c t ⟨rfl,?_⟩;have:decide (x=.non)=de d:=by
   cases d with
   |ref i=>obtain⟨a,rfl,_⟩:=n;rfl
   |p w=>
    cases w with
    |non=>cases (show x=.non from n);rfl
    |bl b=>cases (show x=.bl b from n);rfl
    |int b=>cases (show x=.int b from n);rfl
    |str b=>cases (show x=.str b from n);rfl
    |_=>(obtain⟨a,g,rfl,_⟩:=n;rfl)
  rw[this];exact k _ F H .refl rfl
 .cases q
end
noncomputable def nZ:List iU->List P->Lc->Option Lc
 | [],[],L=>some L
 |g::s,v::O,L=>match g v L with
  |some h=>nZ s O h
  |none=>none
 |_,_,_=>none
def aP(g:List iU):iU:=λv L=>match v with
 | .tup O=>nZ g O L
 |_=>none
theorem tZ:∀{s:List iU}{O:List P}{L x:Lc},nZ s O L=some x->O.length=s.length
 | [],[],_,_,_=>rfl
 | [],_::_,_,_,h=>by cases h
 |_::_,[],_,_,h=>by cases h
 |g::s,v::O,L,x,h=>by
  unfold nZ at h;split at h
  .rw [bc,bc,tZ h]
  .cases h
inductive gTsI(K:FG)(gs:List iU)(xs:List V)(σ:L2.St)(H:Hp)(Q:L2.St->Hp->Prop):Prop
 |mk (F:Aa) (m:List Addr) (L:Lc) (vs:List P) (L':Lc) (h0_:RL K F H m σ L) (h1_:ci K F H vs xs) (h2_:nZ gs vs L=some L') (h3_:∀σ',RL K F H m σ' L'->Q σ' H):gTsI K gs xs σ H Q
noncomputable def Mm(K:FG)(g:List iU):Fp:=λx N H Q=>gTsI K g x N H Q
noncomputable def EU:Expr->Bool
 | .Name _ _=>true
 |_=>false
inductive GsOk(X:Cx):Ab->List iU->Prop where
 |nil:GsOk X [] []
 |cons {e:Expr}{es:Ab}{g:iU}{gs:List iU}:EU e=true->PG X e (gT X.K g)->GsOk X es gs->GsOk X (e::es) (g::gs)
section
variable{X:Cx}{J:Pos}
theorem jY(h:EU e=true):assignEach (e::es) v=(false,assign e v)::assignEach es v:=by cases e<;>first|rfl|cases h
theorem GsOk.len(h:GsOk X es r)(e:Env):(assignEach es e).length=r.length/\(assignEach es e).findIdx? (·.1)=none:=by
 induction h with
 |nil=>exact⟨rfl,rfl⟩
 |cons n _ _ i=>rw[jY n];refine⟨by rw[bc,bc,i.1],?_⟩;simp only[List.findIdx?_cons,i.2];rfl
set_option tactic.hygienic true in
theorem GsOk.pgs(h:GsOk X es gs):Iy X es (Mm X.K gs):=by
 induction h with
 |nil=>
  intro B s N H f u Q I a ⟨F,m,L,O,e,l,r,q,k⟩;cases O with
  |nil=>cases q;cases (show f=[] from r);exact Bx B s N H [] u Q I a ⟨rfl,k N l⟩
  |cons _ _=>cases q
 |cons c g _ i=>
  intro B s N H f u Q I a ⟨F,m,L,O,e,l,r,q,k⟩;cases O with
  |nil=>cases q
  |cons v O=>
   unfold nZ at q;split at q
   .rename_i n b;obtain⟨x,d,rfl,p,r⟩:=r;refine y8 g i (by rw[jY c];rfl) B s N H _ u Q I a ⟨x,d,rfl,F,m,L,v,n,l,p,b,λw t=>?_⟩;exact⟨F,m,n,O,e,t,r,q,k⟩
   .cases q
theorem EX(c:X.calm=true)(h:GsOk X es r):PG X (.Tuple es n J) (gT X.K (aP r)):=
 PG.imp' (D2 c h.pgs (h.len _).1 (h.len _).2) λv N H Q z=>by
  obtain⟨F,m,L,d,x,l,p,q,k⟩:=z;cases d with
  |tup O=>obtain⟨a,f,rfl,t,e⟩:=p;have s:=tZ (show nZ r O L=some x from q);exact⟨a,f,rfl,t.sq,by rw[<- e.length];exact s,F,m,L,O,x,l,e,q,k⟩
  |_=>cases q
def Ct(K:FG)(a:Addr):It:=
 ⟨λi H=>∃s x,hX K H a s/\s[i]? = some x,λi H x h=>∃p y,x=.ref p/\H p=none/\h=cg H p (.tup [.int i,y])/\∀s,hX K H a s->s[i]? = some y,λi H=>∃s,hX K H a s/\s.length≤i⟩
theorem xf{P:Program}{w:World}{K:FG}{es:Ab}{n:Nat}(a e t:Addr)(C:e≠t):Turn P w K (.Tuple es n J) (Ct K a) [e,t] e (λi h=>(∃l,IsEnum h e t i l)/\h.IsListIter t a i) where
 mem:=by simp
 obj:=λi h st b p=>by
  obtain⟨⟨l,A⟩,⟨o,ho,c,d⟩⟩:=st;have:b=e\/b=t:=by simpa using p
  rcases this with rfl|rfl
  .exact⟨_,A,λv z=>by have z':Data.fields _=Data.cell v:=z;cases z'⟩
  .exact⟨o,ho,λv z=>by rw[d]at z;cases z⟩
 keep:=λi h h' st k=>by obtain⟨⟨l,A⟩,y⟩:=st;exact⟨⟨l,k e (by simp) _ A⟩,y.at λo q=>k t (by simp) o q⟩
 item:=by
  intro X hP hw Z f i B s N H E I R st hg;subst hP hw Z;obtain⟨xs,x,T,hx⟩:=hg;obtain⟨its,rv,pl,hz⟩:=I.list T;obtain⟨u,hu,ru⟩:=rv.get hx;obtain⟨⟨l,A⟩,y⟩:=st;obtain⟨f0,f1,f2,f3,f4,f5⟩:=R e (by simp);obtain⟨M,O,g2,V,W,Y⟩:=R t (by simp);refine wpAny_pyNext_enum_item A y pl.isList (x:=u) (by simpa using hu) C λh1 ho1 G ht1 hz1 hk1=>?_
  refine⟨_,rfl,wpAny_letOwnedTupleGo_enum (s:={ s with heap:=h1,toks:=s.toks+1 }) ho1 λQ he2 F=>?_⟩;replace F:Heap.SameBut e h1 Q:=F;have D:e < s.heap.objs.size:=Heap.lt_size A;have S:∀b o,b≠e->b≠t->s.heap.get? b=some o->Q.get? b=some o:=λb o b1 b2 q=>(F.2 b b1).trans (hk1 b o b1 b2 q);have L:Q.get? s.heap.objs.size=some { cls:=.type "tuple",data:=.seq #[.int i s.toks,u] }:=(F.2 _ (cE D)).trans ht1;have j:H s.heap.objs.size=none:=I.hok.fresh (Nat.le_refl _);have U:∀{b:Addr}{o:HO},H b=some o->b≠e/\b≠t:=λ{b o} q=>⟨λz=>(by rw[z,f0]at q;cases q),λz=>(by rw[z,M]at q;cases q)⟩;have g:∀b,b ∉ [e,t]->b≠e/\b≠t:=λb p=>⟨λz=>p (by simp[z]),λz=>p (by simp[z])⟩;have I':Inv X B N (cg H s.heap.objs.size (.tup [.int i,x])) { s with heap:=Q,gens:=s.gens,drawn:=s.drawn,toks:=s.toks+1 }:=by
   refine I.step (ch:=[e,t]) (λb p=>?_) (λb o _ _ f q _=>S b o (g b f).1 (g b f).2 q) (λb o _ _ f q _=>⟨o.slots,S b o (g b f).1 (g b f).2 q⟩) (λb o _ q n=>?_) (λb o f q=>⟨o,S b o (g b f).1 (g b f).2 q⟩)
    (λb ys q=>?_) (λb o ys q=>?_) (λb ps q=>⟨#[],?_⟩) (λm hm=>?_) (λb u' q=>?_) I.bare
   .have:b=e\/b=t:=by simpa using p
    rcases this with rfl|rfl
    .exact⟨f3,f1,f4,f5⟩
    .exact⟨V,O,W,Y⟩
   .rw [av (b0 (Heap.lt_size q))];exact n
   .rw [av (cH q j)];exact q
   .rw [av (cH q j)];exact q
   .rw [av (cH q j),q];simp
   .obtain⟨o,es,ep,ho,r⟩:=hm;exact⟨o,es,ep,S _ o (Ne.symm f1) (Ne.symm O) ho,r⟩
   .by_cases p:b=s.heap.objs.size
    .subst p;rw[aJ]at q;cases q;exact⟨by show 2≤sizeLine;decide,[.int i s.toks,u],.cons ⟨_,rfl⟩ (.cons ru .nil),⟨_,L,⟨rfl,_,rfl⟩,rfl⟩⟩
    .rw [av p]at q;refine(I.hok b u' q).stay (λc v f z=>S c v ?_ ?_ z) (λc z=>by rw[av (cH z j)];exact z) λc ys z=>by rw[av (cH z j)];exact z
     .rcases f with rfl|f
      .exact (U q).1
      .exact (U f).1
     .rcases f with rfl|f
      .exact (U q).2
      .exact (U f).2
  refine⟨.ref s.heap.objs.size,_,I',rfl,⟨s.heap.objs.size,x,rfl,j,rfl,λys hy=>by rw[I.list_inj hy T];exact hx⟩,⟨⟨u,by simpa using he2⟩,G.at λo q=>(F.2 t (Ne.symm C)).trans q⟩,λb p=>?_⟩;have hb':b=e\/b=t:=by simpa using p
  obtain⟨oi,hoi,_⟩:=id y;rcases hb' with rfl|rfl
  .rw [av (b0 D)];exact f0
  .rw [av (b0 (Heap.lt_size hoi))];exact M
 done:=by intro X hP hw Z f i B s N H E I R st hg;subst hP hw Z;obtain⟨xs,T,hx⟩:=hg;obtain⟨its,rv,pl,hz⟩:=I.list T;obtain⟨⟨l,A⟩,y⟩:=st;obtain⟨M,O,g2,V,W,Y⟩:=R t (by simp);have hl:=rv.length;exact wpAny_pyNext_enum_end (I.ok.hd f) A y pl.isList (by simp;lia) λh' eb=>⟨rfl,I.turned (t':=s.toks) (λb o p e=>eb b o p e) M O V W Y⟩
 self:=λ_ _ _ _ _ st h=>by obtain⟨⟨l,A⟩,_⟩:=st;exact wpAny_pyIter_enum A h
noncomputable def bf(k:Int):List P->List P
 | []=>[]
 |x::r=>.tup [.int k,x]::bf (k+1) r
theorem lJ:∀{O:List P}{k:Int}{i:Nat}{v:P},(bf k O)[i]? = some v->∃x,O[i]? = some x/\v=.tup [.int (k+i),x]
 | [],_,_,_,h=>by simp[bf]at h
 |x::r,k,0,v,h=>⟨x,rfl,by simpa[bf] using h.symm⟩
 |x::r,k,i+1,v,h=>by obtain⟨y,a,e⟩:=lJ (O:=r) (k:=k+1) (i:=i) (by simpa[bf] using h);refine⟨y,by simpa using a,?_⟩;rw[e];congr 3;lia
theorem dn:∀(O:List P)(k:Int),(bf k O).length=O.length
 | [],_=>rfl
 |_::r,k=>by rw[bf,bc,bc,dn r]
def rJ(a:EV):gf:=λL S=>aG (a L S) λv h=>match v with
 | .lst x=>some (bf 0 x,h)
 | .ro x=>some (bf 0 x,h)
 |_=>none
theorem zO{K:FG}{F:Aa}{m:List Addr}{H:Hp}{a:Addr}{O:List P}{s:List V}(t:∀h k n,Stp F m H h k n->hX K n a s)(r:ci K F H O s):FS K (Ct K a) (bf 0 O) F m H:=by
 intro h k n st;have q:=t h k n st;have l:=r.length;refine⟨λi v e=>?_,⟨s,q,by rw[dn,l];exact Nat.le_refl _⟩⟩;obtain⟨d,c,rfl⟩:=lJ e;obtain⟨x,f,p⟩:=r.get c;refine⟨⟨s,x,q,f⟩,λz u y=>?_⟩;obtain⟨g,y,rfl,b,rfl,w⟩:=y;have:y=x:=by have:=w s q;rw[f]at this;cases this;rfl
 subst this;refine⟨h,b9 b,RP.newTup b ⟨_,_,rfl,?_,_,_,rfl,RP.mono st p,rfl⟩⟩;show V.int (i:Int)=V.int (0+(i:Int));rw[c6]
theorem iE{es:Ab}{n:Nat}{a:Expr}{C:EV}{p t:Pos}(hg:Gl X "enumerate")(hm:X.mg "enumerate"=none)(ha:PE X a (tV X.K C))(G:starEach [a] X.env=[(false,eval a X.env)]):PI X (.Tuple es n J) (.Call (.Name "enumerate" p) [a] [] t) (tI X.K (rJ C)):=by
 intro B s N H R I ⟨F,m,L,S,O,S',r,l,q,k⟩;obtain⟨v,A,Y,q⟩:=ai q;have Z:PA X [a] (oN X.K (aN C aO)):=Dc ha Fj (by rw[G];rfl);refine Call_ (lC I hg hm boot_enumerate (nr (cG (Z t B s N H (λc x=>∃f d,Stp F m H f d x/\Rel X.K f x d A/\ci X.K f x [v] c) I ⟨F,m,L,S,[v],A,r,l,?_,λc f d x h j K=>⟨f,d,h,j,K⟩⟩) λus h ⟨c,x,w,Q,f,d,st,j,K⟩=>?_) (by rw[G];rfl) rfl))
 .simp only[aN,aO,Y,au]
 obtain⟨x1,rfl,M⟩:=xp K;obtain⟨u,rfl,ru⟩:=vals1 Q;have D:∀{a:Addr}{c:List V},x1=.ref a->hX X.K x a c->R (Ct X.K a) x->wpAny (model X.prog X.w) X.A (call (.type "enumerate") [u]) (λv h=>wpAny (model X.prog X.w) X.A (pyIter v) (Jp X B N (.Tuple es n J) R) X.xe h) X.xe h:=λ{a c} e hq q=>by
  subst e;cases ru;obtain⟨its,Q,pl,hz⟩:=w.list hq;refine call_enumerate_list pl.isList λh' E o hsz hk=>?_
  refine wpAny_pyIter_enum E ?_;have g:∀b,h.heap.objs.size≤b->x b=none:=λb y=>w.hok.fresh y;refine⟨h.heap.objs.size+1,[h.heap.objs.size+1,h.heap.objs.size],_,_,x,rfl,w.kept (t':=h.toks) hk,xf a _ _ (cE (qd _)),⟨⟨_,E⟩,o⟩,λb y=>?_,q⟩;have z:b=h.heap.objs.size+1\/b=h.heap.objs.size:=by simpa using y
  rcases z with rfl|rfl
  .exact w.fpOk (mL _) (g _ (mL _))
  .exact w.fpOk (Nat.le_refl _) (g _ (Nat.le_refl _))
 cases v with
 |lst W=>cases q;obtain⟨a,c,rfl,i,P⟩:=M;exact D rfl i.sq (k _ f d x st j (zO (λT m2 U s=>(i.kp s.kp).sq) P))
 |ro W=>cases q;obtain⟨a,c,rfl,i,P⟩:=M;exact D rfl i.sq (k _ f d x st j (zO (λT m2 U s=>(i.kp s.kp).sq) P))
 |_=>cases q
end
open PySem.AutoSeq1 (wpAny_loadPart')
theorem Aw(n:Nat):(gu n=true)=(n≤1000000):=by unfold gu;simp
variable{d:Type}{Q:d->Shared->Prop}{s:Shared}
theorem IY(h:c=false)(k:wpAny M A b Q E s):wpAny M A (if c=true then a else b) Q E s:=by rw[h,if_neg bO];exact k
theorem Mj(h:c=true)(k:wpAny M A a Q E s):wpAny M A (if c=true then a else b) Q E s:=by rw[h,if_pos rfl];exact k
theorem t8(a:Array Value)(n:Nat):∀b:Array Value,((List.replicate n a).foldl (·++·) b).size=b.size+n * a.size:=by
 induction n with
 |zero=>intro b;simp
 |succ n i=>intro b;rw[dw,gD,i,Array.size_append,Nat.succ_mul];lia
theorem A7(l:Addr)(i:Array Value)(n:Nat)(e:Option Addr)(k:Array (OV))(x:Int)(u:Tok)(c:-1000000 < x/\x < 1000000)(m:(i.isEmpty ||x == 1)=true) :
  Meets (Builtin.«tuple.__mul__» ⟨[.ref l,.int x u],[]⟩) (λ_ R s=>s.heap.get? l=some { cls:=.type "tuple",dict:=e,data:=.seq i n,slots:=k }/\R (.ok (.ret (Value.ref l))) s):=
 .of_wp λI w A R s h=>by
  obtain⟨p,g,d,t,os⟩:=s;obtain⟨a,h⟩:=h;have f:=AutoSeq1.idx_int;have b:=AutoSeq1.sub_tuple_tuple
  wp_walk using j3 a
  refine IY (by rw[br (by lia),br (by lia)];rfl) ?_
  wp_walk using j3 a
  exact⟨_,rfl,h⟩
theorem A6(l:Addr)(i:Array Value)(n:Nat)(c:Option Addr)(q:Array (OV))(x:Int)(u:Tok)(H:-1000000 < x/\x < 1000000)(f:¬(i.isEmpty ||x == 1)=true)(z:i.size * x.toNat≤1000000) :
  Meets (Builtin.«tuple.__mul__» ⟨[.ref l,.int x u],[]⟩) (fun _ R s=>s.heap.get? l=some { cls:=.type "tuple",dict:=c,data:=.seq i n,slots:=q } /\
   R (.ok (.ret (Value.ref s.heap.objs.size))) { s with heap:=s.heap.push { cls:=Value.type "tuple",data:=Data.seq ((List.replicate x.toNat i).foldl (·++·) #[]) } }):=
 .of_wp λI w A R s h=>by
  obtain⟨S,g,d,K,os⟩:=s;obtain⟨a,h⟩:=h;have y:=AutoSeq1.idx_int;have o:=AutoSeq1.sub_tuple_tuple
  wp_walk using j3 a
  refine IY (by rw[br (by lia),br (by lia)];rfl) ?_
  wp_walk using j3 a
  have k:i.isEmpty=false:=by
   cases e:i.isEmpty with
   |false=>rfl
   |true=>rw[e]at f;simp at f
  by_cases b:x≤0
  .refine Mj (by rw[ir b];rfl) ?_;have m:x.toNat=0:=by lia
   rw[m]at h
   wp_walk using j3 a
   exact⟨_,rfl,h⟩
  .refine IY (by rw[br b,k];rfl) ?_;have p:(i.size:Int) * x≤1000000:=by
    have:((i.size * x.toNat:Nat):Int)≤1000000:=by lia
    rw[Int.natCast_mul,Int.toNat_of_nonneg (by lia)]at this;exact this
   have r:¬(i.size:Int) * x > (2 ^ 63-1) / 8:=by lia
   dsimp only;rw[if_neg r];have F:(1000000:Int)≤(sizeLine:Int):=by decide
   refine IY (show Builtin.Tuple.tupleTooMany _=false from br (by lia)) ?_;have t:¬(List.foldl (λv j=>v++j) #[] (List.replicate x.toNat i)).size > sizeLine:=by
    have e:=t8 i x.toNat #[];rw[e];have:x.toNat * i.size≤1000000:=by rw[mM];exact z
    have:(1000000:Nat)≤sizeLine:=by decide
    simp only[List.size_toArray,List.length_nil];lia
   wp_walk using j3 a
   exact⟨_,rfl,h⟩
theorem Bj(a:Int)(t:Tok)(l:Addr)(i:Array Value)(n:Nat)(x:Option Addr)(e:Array (OV)) :
  Meets (Builtin.«int.__rmul__» ⟨[.int a t,.ref l],[]⟩) (λ_ R s=>s.heap.get? l=some { cls:=.type "tuple",dict:=x,data:=.seq i n,slots:=e }/\R (.ok (.ret Value.notImplemented)) s):=
 .of_wp λI w A R s h=>by
  obtain⟨p,g,d,f,os⟩:=s;obtain⟨k,h⟩:=h
  wp_walk
  exact⟨_,rfl,h⟩
theorem xA:fillsNumberSlot (.type "tuple") "mul"=pure false:=
 PySem.fillsNumberSlot_seq (id:="tuple.__mul__") (r:=some (.builtin "tuple.__rmul__")) qm.lookup (by decide +kernel) PySem.F.slot_tuple_rmul.lookup (by decide +kernel)
theorem DQ:seqRepeat? (.type "tuple")=pure (some (.builtin "tuple.__mul__")):=by unfold seqRepeat?;rw[PySem.seqSlot_of (T:="tuple") (name:="__mul__") (id:="tuple.__mul__") qm.lookup (by decide +kernel)];first|rfl|(rw[PySem.seqSlot_of (T:="tuple") (name:="__rmul__") (id:="tuple.__rmul__") PySem.F.slot_tuple_rmul.lookup (by decide +kernel)];rfl)
section
variable{X:Cx}
theorem vq(i:LV)(k:Nat):(List.replicate k i.toArray).foldl (·++·) #[]=(List.replicate k i).flatten.toArray:=by
 have:∀(m:Nat)(b:LV),(List.replicate m i.toArray).foldl (·++·) b.toArray=(b++(List.replicate m i).flatten).toArray:=by
  intro m;induction m with
  |zero=>intro b;simp
  |succ m x=>intro b;rw[dw,gD,List.append_toArray,x,dw,hG,List.append_assoc]
 have h:=this k [];rw[fX]at h;exact h
theorem vX(r:aK u v):∀k:Nat,aK (List.replicate k u).flatten (List.replicate k v).flatten
 |0=>.nil
 |k+1=>by rw[dw,dw,hG,hG];exact r.append (vX r k)
theorem Et(x:List d)(k:Nat):(List.replicate k x).flatten.length=x.length * k:=by
 induction k with
 |zero=>rfl
 |succ k i=>rw[dw,hG,cJ,i,Nat.mul_succ];lia
def dg:P->P->Option P
 | .tup s,.int n=>if (gu (s.length * n.toNat) && decide (n.natAbs < 1000000))=true then some (.tup (List.replicate n.toNat s).flatten) else none
 |x,y=>sE x y
set_option tactic.hygienic true in
theorem Eg:mK X (binaryOp .Mult) dg:=by
 intro B s N H x y v u Q I L M h;obtain⟨F,z,S,d,V,G,J,q,k⟩:=h;have f:sE z S=some d->wpAny (model X.prog X.w) X.A (binaryOp .Mult v u) (EP X B N Q) X.xe s:=λq=>Hb B s N H x y v u Q I L M ⟨F,z,S,d,V,G,J,q,k⟩
 cases z with
 |tup j=>
  cases S with
  |int n=>
   simp only[dg]at q;split at q
   .rename_i g;rw[Bool.and_eq_true,Aw]at g;have Y:=of_decide_eq_true g.2;cases q;obtain⟨a,D,rfl,O,C⟩:=G;cases (show y=.int n from J);cases L;obtain⟨t,rfl⟩:=M;have K:=C.length;obtain⟨i,r,⟨o,e,c,m,E⟩,Z⟩:=I.tuple O.sq;have l:=r.length;obtain⟨oc,A,ot,os⟩:=o;dsimp only at c E;subst c E;refine wpAny_binaryOp_repeat_ref (T:="tuple") (U:="int") (by decide) ⟨_,e,rfl⟩ (λW=>typeIs_int W n t) xA PySem.F.fills_int_mul PySem.F.slot_int_rmul DQ PySem.F.slot_int_index.lookup
     (call_meets PySem.F.slot_int_rmul (typeIs_int s n t) PySem.F.entry_int_rmul (PySem.F.args_int_rmul_2 _ _) (Bj n t a i.toArray m A os) ⟨e,rfl,⟨_,e,rfl⟩,?_⟩)
    by_cases p:(i.toArray.isEmpty ||n == 1)=true
    .refine call_meets qm ⟨_,e,rfl⟩ PySem.F.entry_tuple_mul (PySem.F.args_tuple_mul_2 _ _) (A7 a i.toArray m A os n t (by lia) p) ⟨e,⟨.ref a,H,I,rfl,k _ F H .refl ?_⟩⟩;have R:(List.replicate n.toNat j).flatten=j:=by
      rw[i8]at p;rcases p with p|p
      .have:i=[]:=by simpa using p
       have:j=[]:=j' (by rw[K,l,this];rfl);subst this;simp
      .have:n=1:=by simpa using p
       subst this;simp
     rw[R];exact⟨a,D,rfl,O,C⟩
    .refine call_meets qm ⟨_,e,rfl⟩ PySem.F.entry_tuple_mul (PySem.F.args_tuple_mul_2 _ _) (A6 a i.toArray m A os n t (by lia) p (by rw[List.size_toArray,<- l,<- K];exact g.1)) ⟨e,?_⟩;rw[vq];have w:H s.heap.objs.size=none:=I.hok.fresh (Nat.le_refl _);have P:(List.replicate n.toNat D).flatten.length≤sizeLine:=by
      rw[Et,<- K];exact aM g.1 (by decide)
     refine⟨.ref s.heap.objs.size,_,I.laid (t':=s.toks) (o:=.tup (List.replicate n.toNat D).flatten) (λb ob q=>Heap.get?_push_of_some _ q) (Nat.le_refl _) ⟨P,_,vX r n.toNat,lW.new _ _⟩,rfl,k _ F _ (b9 w) (.newTup w (C.rep n.toNat))⟩
   .cases q
  |_=>exact f q
 |_=>exact f q
noncomputable def lU:List P->Option P
 | [.lst x]=>some (.lst x)
 | [.ro x]=>some (.lst x)
 | [.tup x]=>some (.lst x)
 |_=>none
noncomputable def bD:List P->Option P
 | [.lst x]=>some (.tup x)
 | [.ro x]=>some (.tup x)
 | [.tup x]=>some (.tup x)
 |_=>none
theorem Az:eF X (.type "list") (rC X.K lU):=by
  intro B s N H m u Q I r h;obtain⟨F,b,d,c,f,q,k⟩:=h;unfold lU at q;split at q;all_goals first
    |(cases q;done)
    | (cases q
       obtain⟨x,rfl,p⟩:=xp f;obtain⟨a,y,rfl,t,n⟩:=p;first
         |exact kX B s N H _ u Q I r ⟨a,y,rfl,.inl t.sq,λl e=>k _ _ _ (bQ e) (.newLst e n)⟩
         |exact kX B s N H _ u Q I r ⟨a,y,rfl,.inr t.sq,λl e=>k _ _ _ (bQ e) (.newLst e n)⟩)
theorem x_:eF X (.type "tuple") (rC X.K bD):=by
  intro B s N H m u Q I r h;obtain⟨F,b,d,c,f,q,k⟩:=h;unfold bD at q;split at q;all_goals first
    |(cases q;done)
    | (cases q
       obtain⟨x,rfl,p⟩:=xp f;obtain⟨a,y,rfl,t,n⟩:=p;first
         |exact jS B s N H _ u Q I r ⟨a,y,rfl,.inl ⟨t.sq,λl e=>k _ F _ (b9 e) (.newTup e n)⟩⟩
         |exact jS B s N H _ u Q I r ⟨a,y,rfl,.inr ⟨t.sq,k _ F H .refl ⟨a,y,rfl,t,n⟩⟩⟩)
noncomputable def mn:List P->Option P
 | [.int i]=>some (.int (if i < 0 then -i else i))
 |_=>none
theorem Cm:eF X (.builtin "abs") (rC X.K mn):=by
 intro B s N H n u Q I r h;obtain⟨F,e,d,f,a,q,k⟩:=h;unfold mn at q;split at q
 .cases q;obtain⟨x,rfl,p⟩:=xp a;exact Ax B s N H _ u Q I r ⟨_,by rw[show x=_ from p],k _ F H .refl rfl⟩
 .cases q
variable{e:Expr}{es:Ab}{fs:gf}{p J:Pos}
theorem Dk(g:Gl X "list")(m:X.mg "list"=none)(a:PA X (e::es) (oN X.K fs))(x:starEach (e::es) X.env=(false,eval e X.env)::starEach es X.env)(h:(backTo J (starEach es X.env)).any (·.1)=false) :
  PE X (.Call (.Name "list" p) (e::es) [] J) (tV X.K (ae lU fs)):=uV Az g m PyProof.Rows.boot_list a (by decide) (by decide) x h
theorem AS(g:Gl X "tuple")(m:X.mg "tuple"=none)(a:PA X (e::es) (oN X.K fs))(x:starEach (e::es) X.env=(false,eval e X.env)::starEach es X.env)(h:(backTo J (starEach es X.env)).any (·.1)=false) :
  PE X (.Call (.Name "tuple" p) (e::es) [] J) (tV X.K (ae bD fs)):=uV x_ g m PyProof.Rows.boot_tuple a (by decide) (by decide) x h
theorem F6(g:Gl X "abs")(m:X.mg "abs"=none)(a:PA X (e::es) (oN X.K fs))(x:starEach (e::es) X.env=(false,eval e X.env)::starEach es X.env)(h:(backTo J (starEach es X.env)).any (·.1)=false) :
  PE X (.Call (.Name "abs" p) (e::es) [] J) (tV X.K (ae mn fs)):=Du Cm g m PyProof.Rows.boot_abs a (by decide) (by decide) x h
def dP(r:EE)(a:EV):EE:=λL S=>aG (r L S) λd h=>match c8 d h with
 |none=>none
 |some _=>aG (a L h) λx e=>match c8 d e,x with
  |some (i,s),.lst y=>if gu (s.length+y.length)=true then some (.p .non,e.set i (.lst (s++y.map .p))) else none
  |_,_=>none
end
section
variable{X:Cx}{o e:Expr}{T z:EE}{C:EV}{j t J:Pos}
set_option tactic.hygienic true in
theorem AW(ho:PE X o (tE X.K T))(he:PE X e (tV X.K C))(E:starEach [e] X.env=[(false,eval e X.env)])
  (n:attributeBase o "extend" X.env (eval o X.env)=eval o X.env) (f:(j.endLine == t.line)=true):PE X (.Call (.Attribute o "extend" j) [e] [] t) (tE X.K (dP T C)):=
 (CH uS PySem.F.slot_list_extend PySem.F.type_list_extend xB ho (gj he iF (by rw[E];rfl)) n (by rw[E];rfl) f (by rw[E];rfl) rfl).imp' λN H Q hz=>by
  obtain⟨F,m,L,S,d,S',r,l,q,k⟩:=hz;obtain⟨x,B,e1,q⟩:=ai q;refine⟨F,m,L,S,x,B,r,l,e1,λv Y m1 H1 V R O=>?_⟩;cases D:c8 x B with
  |none=>rw[D]at q;cases q
  |some z=>
   obtain⟨i,ds⟩:=z;rw[D]at q;dsimp only at q;obtain⟨rfl,es⟩:=kF D;obtain⟨a,rfl,hm⟩:=id O;obtain⟨xs,hH,rs⟩:=R.obj i a _ hm es;refine⟨.inl ⟨rfl,xs,hX.of hH⟩,?_⟩;obtain⟨y,J,e2,q⟩:=ai q;refine⟨Y,m1,L,B,y,J,R,l.mono V,e2,λu P G A W I p2=>?_⟩;cases h:c8 (.ref i) J with
   |none=>rw[h]at q;cases q
   |some z=>
    obtain⟨i2,Z⟩:=z;rw[h]at q;obtain⟨e3,s⟩:=kF h;cases e3;cases y with
    |lst ys=>
     dsimp only at q;split at q
     .rename_i hf;cases q;obtain⟨a2,e4,c⟩:=RD.mono W O;cases e4;obtain⟨g,p,w⟩:=I.obj i a _ c s;obtain⟨b,K,rfl,tb,U⟩:=p2;have M:∀K,A a≠some (.tup K):=λK z=>by rw[p]at z;cases z
      have st:Stp P G A P G (cg A a (.lst (g++K))):=fM I c s trivial M;refine⟨a,b,g,K,rfl,rfl,p,tb.2,by rw[<- w.length,<- U.length];exact g9 hf,?_⟩;exact k .non P G _ (V.trans (W.trans st)) (I.set c s trivial M ⟨_,aJ,dm.mono st (w.append (dm.ofP U))⟩) rfl
     .cases q
    |_=>cases q
noncomputable abbrev oJ:=Lc->aD->Option (List D×aD)
inductive tDsI(K:FG)(f:oJ)(σ:L2.St)(H:Hp)(Q:List V->Hp->Prop):Prop
 |mk (F:Aa) (m:List Addr) (L:Lc) (S:aD) (ds:List D) (S':aD) (h0_:Rel K F H m S) (h1_:RL K F H m σ L) (h2_:f L S=some (ds,S')) (h3_:∀xs F' m' H',Stp F m H F' m' H'->Rel K F' H' m' S'->dm K F' H' m' ds xs->Q xs H'):tDsI K f σ H Q
noncomputable def xj(K:FG)(f:oJ):TA:=λN H Q=>tDsI K f N H Q
noncomputable def ba:oJ:=λ_ S=>some ([],S)
def ac(a:EE)(r:oJ):oJ:=λL S=>aG (a L S) λx h=>aG (r L h) λs e=>some (x::s,e)
variable{es:Ab}{fs:oJ}
theorem HZ:PA X [] (xj X.K ba):=iF.imp' λN H Q h=>by obtain⟨F,m,L,S,d,x,r,l,q,k⟩:=h;cases q;exact k [] F m H .refl r rfl
theorem E8(w:PE X e (tE X.K z))(u:PA X es (xj X.K fs))(g:starEach (e::es) X.env=(false,eval e X.env)::starEach es X.env):PA X (e::es) (xj X.K (ac z fs)):=
 (gj w u g).imp' λN H Q i=>by obtain⟨F,m,L,S,d,c,r,l,q,k⟩:=i;obtain⟨x,h,t,q⟩:=ai q;obtain⟨B,D,p,q⟩:=ai q;cases q;refine⟨F,m,L,S,x,h,r,l,t,λv n j C s P o=>?_⟩;refine⟨n,j,L,h,B,c,P,l.mono s,p,λO f y b a A K=>?_⟩;exact k (v::O) f y b (s.trans a) A ⟨v,O,rfl,RD.mono a o,K⟩
noncomputable abbrev GF:=List D->aD->Option (D×aD)
inductive spRI(K:FG)(g:GF)(vs:List V)(H:Hp)(Q:VK):Prop
 |mk (F:Aa) (m:List Addr) (ds:List D) (S:aD) (d:D) (S':aD) (h0_:Rel K F H m S) (h1_:dm K F H m ds vs) (h2_:g ds S=some (d,S')) (h3_:∀v F' m' H',Stp F m H F' m' H'->Rel K F' H' m' S'->RD K F' H' m' d v->Q v H'):spRI K g vs H Q
noncomputable def oO(K:FG)(g:GF):Sp:=λO H Q _=>spRI K g O H Q
def f6(g:GF)(a:oJ):EE:=λL S=>aG (a L S) λd h=>g d h
theorem Dt(G:FnOk X.prog X.w X.K X.mg X.base qc u f fd ps (oO X.K a0))(A:Room u X.A)(o:Gl X x)(P:X.mg x=some (.ref f))(K:PySem.W.keepIn X.K (.ref f)=true)(y:Binds X.K fd ps [])
  (j:PA X (e::es) (xj X.K fs)) (h:(x == ("__debug__":Str))=false) (z:starEach (e::es) X.env=(false,eval e X.env)::starEach es X.env) (a:(backTo J (starEach es X.env)).any (·.1)=false) :
  PE X (.Call (.Name x p) (e::es) [] J) (tE X.K (f6 a0 fs)):=
 (qZ G A o P K y .nil pI j h z a).imp' λN H Q B=>by obtain⟨F,m,L,S,d,g,r,l,q,u⟩:=B;obtain⟨k,n,i,q⟩:=ai q;refine⟨F,m,L,S,k,n,r,l,i,λR b C t s I p=>?_⟩;show oO X.K a0 (R++[]) t Q E0;rw[List.append_nil];exact⟨b,C,k,n,d,g,I,p,q,λv c D w O M E=>u v c D w (s.trans O) M E⟩
noncomputable def xF(n:Nat):D->Bool
 | .p _=>true
 | .ref i=>decide (i < n)
def Es(n:Nat):SO->Bool
 | .lst d=>d.all (xF n)
 | .dct _ d=>d.all (xF n)
 | .fz _=>true
 | .ins _ _ d=>d.all (xF n)
 | .exc _=>true
 | .dtt _ d=>d.all (xF n)
def trunc(n:Nat)(S:aD):aD:=if (S.take n).all (Es n)=true then S.take n else S
def cF(g:GF)(a:oJ):EV:=λL S=>aG (a L S) λs h=>aG (g s h) λd x=>aG (toP 9 d x) λv e=>some (v,trunc h.length e)
end
section
variable{K:FG}{F:Aa}{H:Hp}{m:List Addr}{S:aD}
theorem RD.low(h:RD K F H m r v)(l:xF n r=true):RD K F H (m.take n) r v:=by
 cases r with
 |p w=>exact h
 |ref i=>obtain⟨a,e,x⟩:=h;exact⟨a,e,by rw[iz (of_decide_eq_true l)];exact x⟩
theorem dm.low:∀{s:List D}{a:List V},dm K F H m s a->s.all (xF n)=true->dm K F H (m.take n) s a
 | [],_,h,_=>h
 |d::s,_,h,l=>by obtain⟨x,r,e,k,f⟩:=h;rw[dY,Bool.and_eq_true]at l;exact⟨x,r,e,k.low l.1,dm.low f l.2⟩
theorem Rel.trunc(r:Rel K F H m S)(y:n≤m.length)(h:(S.take n).all (Es n)=true):Rel K F H (m.take n) (S.take n) where
 len:=by rw[iu,iu,r.len]
 nd:=r.nd.sublist (qz _ _)
 obj:=λi a o x t=>by
  have q:i < n:=by have:=(List.getElem?_eq_some_iff.mp x).1;rw[iu]at this;lia
  rw[iz q]at x;have lo:=bj.mp h o (bH t);rw[iz q]at t;have p:=r.obj i a o x t;cases o with
  |lst d=>obtain⟨l,s,b⟩:=p;exact⟨l,s,b.low lo⟩
  |dct u d=>obtain⟨k,s,e,b⟩:=p;exact⟨k,s,e,b.low lo⟩
  |fz v=>exact p
  |ins c u d=>obtain⟨C,g,k,j,s,e,b⟩:=p;exact⟨C,g,k,j,s,e,b.low lo⟩
  |exc c=>exact p
  |dtt u d=>obtain⟨k,s,e,b⟩:=p;exact⟨k,s,e,b.low lo⟩
 sep:=λi a o x t w f=>by
  have q:i < n:=by have:=(List.getElem?_eq_some_iff.mp x).1;rw[iu]at this;lia
  rw[iz q]at x t;exact r.sep i a o x t w f
 trk:=λa h=>r.trk a (qh h)
 ft:=r.ft
theorem Stp.trunc(s:Stp F m H v r u):Stp F m H v (r.take m.length) u:=by
 obtain⟨n,e⟩:=s.pre;have x:r.take m.length=m:=by rw[e];simp
 rw[x];exact⟨⟨[],by simp⟩,s.oth,s.frz,s.frk,s.tup,s.trk,s.nf,λ_ h=>.inl h⟩
end
section
variable{X:Cx}{e:Expr}{es:Ab}{fs:oJ}{J:Pos}
theorem AU(G:FnOk X.prog X.w X.K X.mg X.base qc u f fd ps (oO X.K a0))(Z:Room u X.A)(V:Gl X x)(Y:X.mg x=some (.ref f))(W:PySem.W.keepIn X.K (.ref f)=true)(T:Binds X.K fd ps [])
  (R:PA X (e::es) (xj X.K fs)) (b:(x == ("__debug__":Str))=false) (U:starEach (e::es) X.env=(false,eval e X.env)::starEach es X.env) (w:(backTo J (starEach es X.env)).any (·.1)=false) :
  PE X (.Call (.Name x p) (e::es) [] J) (tV X.K (cF a0 fs)):=
 (qZ G Z V Y W T .nil pI R b U w).imp' λN H Q hz=>by
  obtain⟨F,m,L,S,d,S',r,l,q,u⟩:=hz;obtain⟨z,h,I,q⟩:=ai q;obtain⟨E,D,M,q⟩:=ai q;obtain⟨v1,a,O,q⟩:=ai q;cases q;refine⟨F,m,L,S,z,h,r,l,I,λxs B g C A K p1=>?_⟩;show oO X.K a0 (xs++[]) C Q E0;rw[List.append_nil];refine⟨B,g,z,h,E,D,K,p1,M,λv F2 i y s2 r2 p2=>?_⟩;obtain⟨j,s3,P,l3,o⟩:=nB 9 O r2 p2;have st:=s2.trans s3;have s:=K.len;by_cases c:(a.take h.length).all (Es h.length)=true
  .have t:Ev.trunc h.length a=a.take h.length:=if_pos c;rw[t]at u;have k:g.length≤i.length:=by
    obtain⟨nn,e⟩:=st.pre;rw[e,cJ];lia
   have rt:=P.trunc (n:=h.length) (by rw[<- s];exact k) c;refine u v j (i.take g.length) y (A.trans st.trunc) ?_ o;rw[s];exact rt
  .have t:Ev.trunc h.length a=a:=if_neg c;rw[t]at u;exact u v j i y (A.trans st) P o
end
section
variable{X:Cx}{a b c e o i g:Expr}{C U q k Y:EV}{T z:EE}{J G:Pos}
def oF (i:Expr):Prop:=∀(o:Expr) (J:Pos) (e:Env) (v:Value),assign (.Subscript o i J) e v=(do
 let h <- holding [v] (eval o e)
 let x <- holding [v,h] (eval i e)
 standAt J
 holding [v,h,x] (setItem h x v)
 release [v,h,x] [])
def pF(o:EE)(k v:EV):ES:=λL S=>aG (v L S) λy x=>aG (o L x) λd a=>aG (k L a) λz h=>match c8 d h,z with
 |some (i,s),.int n=>match xK s.length n with
  |some j=>some (.nx,L,h.set i (.lst (s.set j (.p y))))
  |none=>none
 |_,_=>none
theorem dm.setAt{K:FG}{F:Aa}{H:Hp}{m:List Addr}{d:D}{v:V}(h:RD K F H m d v):∀{s:List D}{e:List V}(j:Nat),dm K F H m s e->dm K F H m (s.set j d) (e.set j v)
 | [],_,_,r=>by cases (show _=([]:List V) from r);exact rfl
 |_::_,_,0,r=>by obtain⟨x,a,rfl,p,r⟩:=r;exact⟨v,a,rfl,h,r⟩
 |_::_,_,j+1,r=>by obtain⟨x,a,rfl,p,r⟩:=r;exact⟨x,_,rfl,p,dm.setAt h j r⟩
theorem FU(ho:PE X o (tE X.K T))(hi:PE X i (tV X.K k))(hv:PE X g (tV X.K Y))(hs:swapsWith g (some (.Subscript o i G)) J.line X.env=pure false)(hw:swappedStores [.Subscript o i G] g X.env=pure none)(P:oF i) :
  PS X (.Assign [.Subscript o i G] g J) (kx X.K (pF T k Y)):=(y3 hv (D3 ho hi yK (P o G X.env)) hs hw).imp' λD N H hz=>by
 obtain⟨F,m,L,S,fl,L',S',r,l,q,h⟩:=hz;obtain⟨y,I,e1,q⟩:=ai q;obtain⟨d,M,e2,q⟩:=ai q;obtain⟨z,O,e3,q⟩:=ai q;refine⟨F,m,L,S,y,I,r,l,e1,λv E R H1 b r1 p1=>?_⟩;refine⟨E,R,L,I,d,M,r1,l.mono b,e2,λx F2 m2 H2 c r2 p2=>?_⟩;refine⟨F2,m2,L,M,z,O,r2,(l.mono b).mono c,e3,λw e f s p C p3=>?_⟩;cases K:c8 d O with
 |none=>rw[K]at q;cases q
 |some t=>
  obtain⟨j,ds⟩:=t;rw[K]at q;cases z with
  |int n=>
   dsimp only at q;cases u:xK ds.length n with
   |none=>rw[u]at q;cases q
   |some B=>
    rw[u]at q;cases q;obtain⟨rfl,es⟩:=kF K;obtain⟨a,rfl,A⟩:=RD.mono p p2;obtain⟨W,Q,V⟩:=C.obj j a _ A es;have pv:RD X.K e s f (.p y) v:=RD.mono p (RD.mono c (show RD X.K E H1 R (.p y) v from p1));cases (show w=.int n from p3);have U:∀Z,s a≠some (.tup Z):=λZ z=>by rw[Q]at z;cases z
    have st:Stp e f s e f (cg s a (.lst (W.set B v))):=fM C A es trivial U;refine⟨a,W,n,B,rfl,rfl,Q,by rw[<- V.length];exact u,?_⟩;exact h N e f _ (b.trans (c.trans (p.trans st))) (C.set A es trivial U ⟨_,aJ,dm.mono st (dm.setAt pv B V)⟩) (((l.mono b).mono c).mono (p.trans st))
  |_=>cases q
def fw(o:EE)(k v:EV):ES:=λL S=>match oR o k v L S with
 |some r=>some r
 |none=>pF o k v L S
theorem FW(u:X.A.units+1 < cLine)(p:PE X o (tE X.K T))(t:PE X i (tV X.K k))(d:PE X g (tV X.K Y))(v:swapsWith g (some (.Subscript o i G)) J.line X.env=pure false)(hw:swappedStores [.Subscript o i G] g X.env=pure none)(b:oF i) :
  PS X (.Assign [.Subscript o i G] g J) (kx X.K (fw T k Y)):=λB s N H D I h=>by
 obtain⟨F,m,L,S,f,a,e,r,l,q,x⟩:=h;cases n:oR T k Y L S with
 |some z=>
  have c:some z=some (f,a,e):=by have:=q;unfold fw at this;rw[n]at this;exact this
  cases c;exact Jw u p t d v B s N H D I ⟨F,m,L,S,f,a,e,r,l,n,x⟩
 |none=>
  have c:pF T k Y L S=some (f,a,e):=by have:=q;unfold fw at this;rw[n]at this;exact this
  exact FU p t d v hw b B s N H D I ⟨F,m,L,S,f,a,e,r,l,c,x⟩
def lu(g n:P->P->Option P)(a b c:EV):EV:=λL S=>aG (a L S) λx e=>aG (b L e) λy h=>match g x y with
 |some (.bl true)=>aG (c L h) λz s=>(n y z).map λv=>(v,s)
 |some (.bl false)=>some (.bl false,h)
 |_=>none
theorem uC{g b:P->P->Option P}{N:L2.St}{H:Hp}{Q:VK}(h:tV X.K (lu g b C U q) N H Q):uZ (rP X.K g) (rP X.K b) (tV X.K C) (tV X.K U) (tV X.K q) N H Q:=by
 obtain⟨F,m,L,S,d,S',r,l,a,k⟩:=h;obtain⟨x,j,W,a⟩:=ai a;obtain⟨y,o,Y,a⟩:=ai a;refine⟨F,m,L,S,x,j,r,l,W,λv J m1 H1 E r1 p1=>?_⟩;refine⟨J,m1,L,j,y,o,r1,l.mono E,Y,λu M p H2 G A K=>?_⟩;cases f:g x y with
 |none=>rw[f]at a;cases a
 |some z=>
  rw[f]at a;cases z with
  |bl t=>
   refine⟨M,x,y,_,A.ft,RP.mono G p1,K,f,λw n i c p3=>⟨t,p3,?_⟩⟩;have oH:Stp F m H n p i:=E.trans (G.trans c.stp);have B:=A.grow c;cases t with
   |false=>rw[if_neg bO];cases a;exact k _ n p i oH B rfl
   |true=>
    rw[if_pos rfl];dsimp only at a;obtain⟨z,V,Z,a⟩:=ai a;refine⟨n,p,L,o,z,V,B,l.mono oH,Z,λw' O m4 H4 I D p4=>?_⟩;cases e:b y z with
    |none=>rw[e]at a;cases a
    |some z2=>rw[e]at a;cases a;exact⟨O,y,z,_,D.ft,RP.mono I (RP.grow c K),p4,e,λw2 R T s p5=>k w2 R m4 T (oH.trans (I.trans s.stp)) (D.grow s) p5⟩
  |_=>cases a
theorem Ds(n:mK X (compareOp u) r)(o:mK X (compareOp v) L)(x:PE X a (tV X.K C))(e:PE X b (tV X.K U))(s:PE X c (tV X.K q))(m:lastMarks [u,v] [b,c]=false) :
  PE X (.Compare a [u,v] [b,c] J) (tV X.K (lu r L C U q)):=(zl n o x e s m).imp' λ_ _ _ h=>uC h
theorem Dj(y:mK X (compareOp op) u)(o:mK X (compareOp op') g')(w:PE X a (tV X.K C))(g:PE X b (tV X.K U))(i:PE X c (tV X.K q))(j:lastMarks [op,op'] [b,c]=false) :
  PT X (.Compare a [op,op'] [b,c] J) (tQ X.K (bV (lu u g' C U q))):=(yZ y o w g i j).imp' λN H Q h=>by
 refine uC ?_;obtain⟨F,m,L,S,d,P,r,l,e,k⟩:=h;obtain⟨x,A,t,e⟩:=ai e;cases x with
 |bl b=>cases e;exact⟨F,m,L,S,_,_,r,l,t,λv n z f s K p=>⟨_,p,k n z f s K⟩⟩
 |_=>cases e
def uX:P->Option Bool
 | .non=>some false
 | .bl b=>some b
 | .int i=>some (i != 0)
 | .str x=>if gu x.length=true then some ((x.length:Int) != 0) else none
 | .tup s=>some (!s.isEmpty)
 | .lst s=>some (!s.isEmpty)
 | .ro s=>some (!s.isEmpty)
 | .dct k _=>some (!k.isEmpty)
def yw:D->aD->Option Bool
 | .p v,_=>uX v
 | .ref i,S=>match S[i]? with
  |some (.lst d)=>some (!d.isEmpty)
  |some (.dct k _)=>some (!k.isEmpty)
  |some (.fz v)=>uX v
  |_=>none
def bT(f:EE):EB:=λL S=>aG (f L S) λd h=>(yw d h).map λb=>(b,h)
theorem gX{x:List d}{y:List l}(h:x.length=y.length):x.isEmpty=y.isEmpty:=by cases x<;>cases y<;>first|rfl|simp at h
set_option tactic.hygienic true in
theorem wb(p:RP X.K F H w v)(h:uX w=some r):Fm X.K v H r:=by
 cases w with
 |non=>cases (show v=.non from p);cases h;rfl
 |bl b=>cases (show v=.bl b from p);cases h;rfl
 |int b=>cases (show v=.int b from p);cases h;rfl
 |str x=>
  cases (show v=.str x from p);simp only[uX]at h;split at h
  .rename_i c;cases h;exact⟨g9 c,rfl⟩
  .cases h
 |tup d=>obtain⟨a,s,rfl,t,e⟩:=p;cases h;exact .inr (.inl ⟨s,t.sq,by rw[gX e.length]⟩)
 |lst d=>obtain⟨a,s,rfl,t,e⟩:=p;cases h;exact .inl ⟨s,t.sq,by rw[gX e.length]⟩
 |ro d=>obtain⟨a,s,rfl,t,e⟩:=p;cases h;exact .inl ⟨s,t.sq,by rw[gX e.length]⟩
 |dct m d=>obtain⟨a,k,rfl,_,f,n,e⟩:=p;cases h;exact .inr (.inr ⟨k,f,by rw[<- n];cases k<;>rfl⟩)
set_option tactic.hygienic true in
theorem yT(h:PE X e (tE X.K z))(D:∀o,isTrue e X.env o=(do let v <- o;standAt e.pos;holding [v] (truthy v))):PT X e (tQ X.K (bT z)):=
 (yY h D).imp' λN H Q E=>by
  obtain⟨F,m,L,S,d,M,r,l,q,k⟩:=E;obtain⟨x,P,B,q⟩:=ai q;cases s:yw x P with
  |none=>rw[s]at q;cases q
  |some t=>
   rw[s]at q;cases q;refine⟨F,m,L,S,x,_,r,l,B,λv y G K I b g=>⟨_,?_,k y G K I b⟩⟩;cases x with
   |p w=>exact wb g s
   |ref j=>
    obtain⟨a,rfl,u⟩:=g;simp only[yw]at s;split at s
    .rename_i A n;cases s;obtain⟨J,c,i⟩:=b.obj j a _ u n;exact .inl ⟨J,hX.of c,by rw[gX i.length]⟩
    .rename_i O A n;cases s;obtain⟨f,c,C,i⟩:=b.obj j a _ u n;exact .inr (.inr ⟨f,c,by rw[<- C];cases f<;>rfl⟩)
    .rename_i w n;exact wb (b.obj j a _ u n) s
    .cases s
def tj(g:iU)(f:EV):ES:=λL S=>aG (f L S) λv x=>match g v L with
 |some h=>some (.nx,h,x)
 |none=>none
theorem Ju(p:PE X e (tV X.K C))(d:PG X tg (gT X.K u))(w:swapsWithSole [tg] e J.line X.env=pure false)(hw:swappedStores [tg] e X.env=pure none)(t:(assignEach [tg] X.env).map (·.2)=[assign tg X.env]) :
  PS X (.Assign [tg] e J) (kx X.K (tj u C)):=(y3 p d w hw t).imp' λD N H z=>by
 obtain⟨F,m,L,S,P,o,K,r,l,q,k⟩:=z;obtain⟨v,b,c,q⟩:=ai q;refine⟨F,m,L,S,v,b,r,l,c,λx a s f n y j=>?_⟩;cases g:u v L with
 |none=>rw[g]at q;cases q
 |some L2=>rw[g]at q;cases q;exact⟨a,s,L,v,_,l.mono n,j,g,λh i=>k h a s f n y i⟩
def aw:P->P->Option P
 | .tup [],.tup s=>some (.tup s)
 |x,y=>sF x y
theorem Fd{M:Program}{w:World}{A:Around}{E:VP}{s:Shared}{t b:Addr}{a:LV}{Q:VP}(n:IsTup s.heap t #[])(e:IsTup s.heap b a.toArray)(h:Q (.ref b) s):wpAny (model M w) A (binaryOp .Add (.ref t) (.ref b)) Q E s:=by obtain⟨o,g,k,m,l⟩:=id n;obtain⟨p,x,f,r,c⟩:=id e;cases o;cases p;cases k;cases l;cases f;cases c;exact concat_meets ⟨_,g,rfl⟩ ⟨_,x,rfl⟩ noFill_tuple_add seq_tuple_add qK uQ (uT _ _) (tuple_addW0 t b #[] a.toArray m r _ _ _ _ rfl) ⟨g,x,h⟩
theorem Eh:mK X (binaryOp .Add) aw:=by
 intro B s N H x y v u Q I r m h;obtain⟨F,e,n,d,t,c,p,q,k⟩:=h;have o:sF e n=some d->wpAny (model X.prog X.w) X.A (binaryOp .Add v u) (EP X B N Q) X.xe s:=λq=>Hi B s N H x y v u Q I r m ⟨F,e,n,d,t,c,p,q,k⟩
 cases e with
 |tup f=>
  cases n with
  |tup es=>
   cases f with
   |nil=>cases q;obtain⟨a,P,rfl,S,z⟩:=c;obtain⟨b,D,rfl,K,C⟩:=id p;cases (show P=[] from z);cases r;cases m;obtain⟨w,l,g,_⟩:=I.tuple S.sq;obtain⟨i,A,j,_⟩:=I.tuple K.sq;cases l;exact Fd g j ⟨.ref b,H,I,rfl,k _ F H .refl p⟩
   |cons _ _=>exact o q
  |_=>cases f<;>exact o q
 |_=>exact o q
def vS(K:FG)(m:SV)(x:Str)(v:P):Prop:=∃u w,m x=some u/\RelV w u/\∀F H,RP K F H v w
theorem F_(g:Gl X x)(h:vS X.K X.mg x v)(hd:(x == ("__debug__":Str))=false):PE X (.Name x J) (tV X.K (vC v)):=by obtain⟨u,w,m,r,p⟩:=h;exact xC (BB g m r hd) p
end
section
variable{X:Cx}{a:Expr}{C:EE}{p J:Pos}
def ET(T:String):D->aD->Option Bool
 | .p v,_=>some (zP T v)
 | .ref i,S=>match S[i]? with
  |some (.lst _)=>some (zP T (.lst []))
  |some (.dct _ _)=>some (zP T (.dct [] []))
  |some (.fz v)=>some (zP T v)
  |_=>none
def JY(T:String)(f:EE):EV:=λL S=>aG (f L S) λd h=>(ET T d h).map λb=>(.bl b,h)
end
noncomputable def gK(f:Str):LS->List D->Option D
 |k::h,d::s=>if k=f then some d else gK f h s
 |_,_=>none
noncomputable def putK(f:Str):LS->LS
 | []=>[f]
 |k::s=>if k=f then k::s else k::putK f s
noncomputable def nJ(f:Str)(y:D):LS->List D->List D
 | [],_=>[y]
 |k::h,d::s=>if k=f then y::s else d::nJ f y h s
 |_::_,[]=>[]
def iZ(K:FG)(c:Str)(C:Addr):Prop:=PySem.W.nsIn K mainGlobals c=some (some (.ref C))
variable{K:FG}
theorem iZ.inj(h:iZ K c r)(x:iZ K c v):r=v:=by have:=h.symm.trans x;cases this;rfl
def Jt(K:FG)(A:Str->Str->Bool):Prop:=∀c f,A c f=true->∃C,iZ K c C/\Cls K C/\kt K C f
section
variable{K:FG}{F:Aa}{H:Hp}{m:List Addr}
set_option tactic.hygienic true in
theorem ww:∀{a:List (Str×V)}{s:List D}{d:D},dm K F H m s (a.map (·.2))->gK f (a.map (·.1)) s=some d->∃v,a.lookup f=some v/\RD K F H m d v
 | [],s,d,_,h=>by cases s<;>cases h
 |(k,x)::r,s,d,q,h=>by
  cases s with
  |nil=>cases h
  |cons w s=>
   obtain⟨y,u,e,t,p⟩:=q;simp only[List.map_cons,bN]at e;obtain⟨rfl,rfl⟩:=e;simp only[List.map_cons,gK]at h;split at h
   .rename_i n;cases h;subst n;exact⟨x,by simp[List.lookup],t⟩
   .rename_i n;obtain⟨v,b,c⟩:=ww p h;exact⟨v,by rw[mU,show(f == k)=false by simpa using λz=>n z.symm];exact b,c⟩
theorem wv:∀{v:List (Str×V)},(v.map (·.1)).contains f=false->v.lookup f=none
 | [],_=>rfl
 |(k,x)::r,h=>by simp only[List.map_cons,List.contains_cons,Bool.or_eq_false_iff]at h;rw[mU,h.1];exact wv h.2
theorem yX(h:RD K F H m u v):∀{s:List (Str×V)}{d:List D},dm K F H m d (s.map (·.2))->(hU f v s).map (·.1)=putK f (s.map (·.1))/\dm K F H m (nJ f u (s.map (·.1)) d) ((hU f v s).map (·.2))
 | [],d,n=>⟨rfl,v,[],rfl,h,rfl⟩
 |(k,x)::r,d,n=>by
  cases d with
  |nil=>cases (show _=([]:List V) from n)
  |cons p d=>
   obtain⟨z,q,e,c,a⟩:=n;simp only[List.map_cons,bN]at e;obtain⟨rfl,rfl⟩:=e;by_cases b:k=f
   .simp only[hU,b,iB,List.map_cons,putK,nJ];first|exact⟨rfl,v,_,rfl,h,a⟩|exact⟨trivial,v,_,rfl,h,a⟩
   .obtain⟨i,t⟩:=yX h a;simp only[hU,b,if_false,List.map_cons,putK,nJ];exact⟨by rw[i],x,_,rfl,c,t⟩
end
section
variable{X:Cx}{o e g:Expr}{f:Str}{J G j:Pos}{T Y:EE}{A:Str->Str->Bool}{es:Ab}{fs:oJ}
def dM(A:Str->Str->Bool)(o:EE)(f:Str):EE:=λL S=>aG (o L S) λd h=>match d with
 | .ref i=>match h[i]? with
  |some (.ins c k s)=>if A c f=true then (gK f k s).map λz=>(z,h) else none
  |_=>none
 |_=>none
set_option tactic.hygienic true in
theorem JS(B:Jt X.K A)(R:PE X o (tE X.K T))(G:attributeBase o f X.env (eval o X.env)=eval o X.env):PE X (.Attribute o f J) (tE X.K (dM A T f)):=(D9 R G).imp' λN H Q V=>by
 obtain⟨F,m,L,S,d,S',r,l,q,k⟩:=V;obtain⟨x,u,y,q⟩:=ai q;refine⟨F,m,L,S,x,u,r,l,y,λv b Y t s1 n Z=>?_⟩;cases x with
 |p w=>cases q
 |ref i=>
  obtain⟨a,rfl,M⟩:=Z;dsimp only at q;split at q
  .rename_i c W g U;split at q
   .rename_i E;cases h:gK f W g with
    |none=>rw[h]at q;cases q
    |some z=>rw[h]at q;cases q;obtain⟨C,j,s,P,D,rfl,rs⟩:=n.obj i a _ M U;obtain⟨C',e,I,O⟩:=B c f E;cases iZ.inj P e;obtain⟨v,K,p3⟩:=ww rs h;exact⟨a,C,j,s,v,rfl,D,I,O,K,k v b Y t s1 n p3⟩
   .cases q
  .cases q
def kD(A:Str->Str->Bool)(o:EE)(f:Str)(v:EE):ES:=λL S=>aG (v L S) λy x=>aG (o L x) λd h=>match d with
 | .ref i=>match h[i]? with
  |some (.ins c k s)=>if (A c f && decide (k.length < 900))=true then some (.nx,L,h.set i (.ins c (putK f k) (nJ f y k s))) else none
  |_=>none
 |_=>none
set_option tactic.hygienic true in
theorem FX(hA:Jt X.K A)(ho:PE X o (tE X.K T))(hv:PE X g (tE X.K Y))(h:swapsWith g (some (.Attribute o f G)) J.line X.env=pure false):PS X (.Assign [.Attribute o f G] g J) (kx X.K (kD A T f Y)):=(DX ho hv h).imp' λD N H hz=>by
 obtain⟨F,m,L,S,fl,L',S',r,l,q,k⟩:=hz;obtain⟨y,I,W,q⟩:=ai q;obtain⟨d,V,Z,q⟩:=ai q;refine⟨F,m,L,S,y,I,r,l,W,λv U m1 H1 B r1 p1=>?_⟩;refine⟨U,m1,L,I,d,V,r1,l.mono B,Z,λx e K n E P p2=>?_⟩;cases d with
 |p w=>cases q
 |ref i=>
  obtain⟨a,rfl,j⟩:=p2;dsimp only at q;split at q
  .rename_i c ks ds h;split at q
   .rename_i u;rw[Bool.and_eq_true]at u;cases q;obtain⟨C,b,s,M,O,rfl,rs⟩:=P.obj i a _ j h;obtain⟨C',t,hc,hn⟩:=hA c f u.1;cases iZ.inj M t;have hl:s.length < 1000:=by have:=of_decide_eq_true u.2;rw[a9]at this;lia
    have Q:∀R,n a≠some (.tup R):=λR z=>by rw[O]at z;cases z
    have st:Stp e K n e K (cg n a (.ins C b (hU f v s))):=fM P j h trivial Q;obtain⟨i1,i2⟩:=yX (f:=f) (RD.mono st (RD.mono E p1)) (dm.mono st rs);exact⟨a,C,b,s,rfl,O,hc,hn,hl,k N e K _ (B.trans (E.trans st)) (P.set j h trivial Q ⟨C,b,_,M,aJ,i1,i2⟩) ((l.mono B).mono (E.trans st))⟩
   .cases q
  .cases q
def dB(M:Str->Str->Option GF)(o:EE)(y:Str)(a:oJ):EE:=λL S=>aG (o L S) λd h=>match d with
 | .ref i=>match h[i]? with
  |some (.ins c k _)=>match M c y with
   |some g=>if k.contains y=true then none else aG (a L h) λO x=>g (.ref i::O) x
   |none=>none
  |_=>none
 |_=>none
def Jq(X:Cx)(M:Str->Str->Option GF):Prop:=∀c y g,M c y=some g->∃C k f d p,iZ X.K c C/\Cls X.K C/\Meth X.K C y f/\FnOk X.prog X.w X.K X.mg X.base qc k f d p (oO X.K g)/\Room k X.A/\Binds X.K d p []
variable{M:Str->Str->Option GF}{y:Str}
set_option tactic.hygienic true in
theorem pL(hM:Jq X M){t:TE}{ta:TA}(n:∀C k f b ps g,Cls X.K C->Meth X.K C y f->FnOk X.prog X.w X.K X.mg X.base qc k f b ps (oO X.K g)->Room k X.A->Binds X.K b ps []->PE X e (yH C y (oO X.K g) [] E0 (tE X.K T) (xj X.K fs))):PE X e (tE X.K (dB M T y fs)):=by
 intro B s N H Q I h;obtain⟨F,m,L,S,d,Y,r,l,q,k⟩:=h;obtain⟨x,o,e1,q⟩:=ai q;cases x with
 |p w=>cases q
 |ref i=>
  dsimp only at q;split at q
  .rename_i c ks ds hs;split at q
   .rename_i g hg;split at q
    .cases q
    .rename_i hk;obtain⟨O,K,e2,q⟩:=ai q;obtain⟨C,kk,f,b,ps,ec,hc,hm,hF,hr,hb⟩:=hM c y g hg;refine n C kk f b ps g hc hm hF hr hb B s N H Q I ⟨F,m,L,S,.ref i,o,r,l,e1,λv G m1 H1 D A P=>?_⟩;obtain⟨a,rfl,j⟩:=id P;obtain⟨C',Z,z,u,hH,rfl,rs⟩:=A.obj i a _ j hs;cases iZ.inj ec u;refine⟨a,Z,z,rfl,hH,wv (by simpa using hk),G,m1,L,o,O,K,A,l.mono D,e2,λxs J m2 U E r2 p2=>?_⟩;show oO X.K g (V.ref a::(xs++[])) U Q E0;rw[List.append_nil];exact⟨J,m2,.ref i::O,K,d,Y,r2,⟨_,_,rfl,RD.mono E P,p2⟩,q,λv R m3 W s3 r3 p3=>k v R m3 W (D.trans (E.trans s3)) r3 p3⟩
   .cases q
  .cases q
theorem F7(x:Jq X M)(n:PE X o (tE X.K T))(a:PA X (e::es) (xj X.K fs))(s:starEach (e::es) X.env=(false,eval e X.env)::starEach es X.env)(h:(backTo J (starEach es X.env)).any (·.1)=false)
  (p:eval (.Call (.Attribute o y j) (e::es) [] J) X.env=(do
   let v <- eval o X.env
   standAt j.atName
   let (f,first) <- holding [v] (getMethod v y u)
   callWith J f first (backTo J (starEach (e::es) X.env)) (backToKw J (keywordEach [] X.env)))) :
  PE X (.Call (.Attribute o y j) (e::es) [] J) (tE X.K (dB M T y fs)):=
 pL (t:=tE X.K T) (ta:=xj X.K fs) x λC k f d q g c m F r b=>Bz n c m F r b .nil pI a s h p
theorem Dn(i:Jq X M)(B:PE X o (tE X.K T))
  (E:eval (.Call (.Attribute o y j) [] [] J) X.env=(do
   let u <- eval o X.env
   standAt j.atName
   let (f,first) <- holding [u] (getMethod u y pl)
   callWith J f first (backTo J (starEach [] X.env)) (backToKw J (keywordEach [] X.env)))) :
  PE X (.Call (.Attribute o y j) [] [] J) (tE X.K (dB M T y ba)):=
 pL (t:=tE X.K T) (ta:=xj X.K ba) i λC k f fd ps g K A p D z=>(zc B K A p D z .nil pI E).imp' λN H Q h=>by obtain⟨F,m,L,S,d,n,r,l,q,k⟩:=h;refine⟨F,m,L,S,d,n,r,l,q,λv e I x Y V R=>?_⟩;obtain⟨a,c,fs,rfl,w,P,s,O,L2,Z,ds,b,W,l2,U,G⟩:=k v e I x Y V R;cases U;exact⟨a,c,fs,rfl,w,P,G [] s O x .refl W rfl⟩
def pT(g:GF)(c:Str)(a:oJ):EE:=λL S=>aG (a L S) λO h=>match g (.ref h.length::O) (h++[.ins c [] []]) with
 |some (.p .non,x)=>some (.ref h.length,x)
 |_=>none
set_option tactic.hygienic true in
theorem F9{C f:Addr}{o:FuncData}{ps:LS}{k:Nat}{x:Str}{p:Pos}{g:GF}(M:Mk X.K C f)(G:FnOk X.prog X.w X.K X.mg X.base qc k f o ps (oO X.K g))(hr:Room (k+1) X.A)(Z:Gl X x)(hm:X.mg x=some (.ref C))(U:iZ X.K x C)(W:Binds X.K o ps [])
  (V:PA X (e::es) (xj X.K fs)) (i:(x == ("__debug__":Str))=false) (Y:starEach (e::es) X.env=(false,eval e X.env)::starEach es X.env) (z:(backTo J (starEach es X.env)).any (·.1)=false) :
  PE X (.Call (.Name x p) (e::es) [] J) (tE X.K (pT g x fs)):=
 (BA M G hr Z hm W .nil pI V i Y z).imp' λN H Q hz=>by
  obtain⟨F,m,L,S,d,S',r,l,q,k⟩:=hz;obtain⟨O,t,I,q⟩:=ai q;refine⟨F,m,L,S,O,t,r,l,I,λxs s a b s1 K p1=>λy h hy w j=>?_⟩;split at q
  .rename_i _ S2 R;cases q;have P:Stp s a b s a (cg b h (.own y)):=iD w;have r2:Rel X.K s (cg b h (.own y)) a t:=K.new w;have u:cg b h (.own y) y=none:=by rw[av (Ne.symm j)];exact hy
   have A:Stp s a (cg b h (.own y)) s (a++[y]) (cg (cg b h (.own y)) y (.ins C h [])):=gh u;have r3:Rel X.K s (cg (cg b h (.own y)) y (.ins C h [])) (a++[y]) (t++[.ins x [] []]):=r2.own u ⟨C,h,[],U,aJ,rfl,rfl⟩;rw[List.append_nil];have c:(a++[y])[t.length]? = some y:=by rw[<- K.len,fB (Nat.le_refl _)];simp
   refine⟨s,a++[y],.ref t.length::O,_,.p .non,_,r3,⟨_,_,rfl,⟨y,rfl,c⟩,dm.mono A (dm.mono P p1)⟩,R,λv D m4 E B r4 p4=>⟨p4,?_⟩⟩;refine k (.ref y) D m4 E (s1.trans (P.trans (A.trans B))) r4 ⟨y,rfl,?_⟩;obtain⟨n,T⟩:=B.pre;rw[T,List.getElem?_append_left (List.getElem?_eq_some_iff.mp c).1];exact c
  .cases q
end
theorem Eo(h:attributeBase o y v (eval o v)=eval o v)(e:methodCallForm (r.length+([]:List Keyword).length) (backTo J (starEach r v)) (backToKw J (keywordEach [] v))=true)(l:(j.endLine == J.line)=true) :
  eval (.Call (.Attribute o y j) r [] J) v=(do
   let u <- eval o v
   standAt j.atName
   let (f,first) <- holding [u] (getMethod u y (do return (<- importBound o v).getD true))
   callWith J f first (backTo J (starEach r v)) (backToKw J (keywordEach [] v))):=by
 have x:methodCallPos true o v j J=pure J:=by unfold methodCallPos;rw[l];rfl
 have a:∀u,methodCall o y j J v u (r.length+([]:List Keyword).length) (backTo J (starEach r v)) (backToKw J (keywordEach [] v))=(do
   let (f,first) <- holding [u] (getMethod u y (do return (<- importBound o v).getD true))
   callWith J f first (backTo J (starEach r v)) (backToKw J (keywordEach [] v))):=λu=>by
  unfold methodCall;rw[e,x];rfl
 have s:eval (.Call (.Attribute o y j) r [] J) v=(do
  let u <- attributeBase o y v (eval o v)
  standAt j.atName
  methodCall o y j J v u (r.length+([]:List Keyword).length) (backTo J (starEach r v)) (backToKw J (keywordEach [] v))):=by rfl
 rw[s,h];simp only[a]
open PySem.W (KasT kas_sort kas_ask kas_item kat_run kat_snds kat_lt kat_kind KatTups KatLex kat_nil kat_cons kat_yes kat_no kat_one)
noncomputable def B8(lt:Nat->Nat->Option Bool):KasT d->Option d
 | .ret a=>some a
 | .ask i j k=>match lt i j with
  |some b=>B8 lt (k b)
  |none=>none
set_option tactic.hygienic true in
theorem Ak(c:∀i j b C,lt i j=some b->C b s->r i j C s)(q:Q a s) :
  ∀(t:KasT d),B8 lt t=some a->t.kasWp r Q s
 | .ret _,h=>by cases h;exact q
 | .ask i j k,h=>by
  simp only[B8]at h;split at h
  .rename_i b x;exact c i j b _ x (Ak c q (k b) h)
  .cases h
section
variable{I:Program}{w:World}{A:Around}{E:VP}{s:Shared}{D:Addr}{O:LV}
theorem t_(few:O.length < 2):((arrOf (SortSt.mk' general' (O.toArray.zip O.toArray) #[] 7 none)).map (·.2))=O.toArray:=by
 have same:(O.toArray.zip O.toArray).map (·.2)=O.toArray:=by
  rcases O with _|⟨v,_|⟨u,r⟩⟩
  .simp
  .simp
  .exact absurd few (by simp)
 exact same
theorem Aj(few:O.length < 2)(a:s.heap.get? D=some (seqObj "list" O.toArray r))
  (g:∀x c,(∀b o,b≠D->s.heap.get? b=some o->x.get? b=some o)->x.get? D=some (seqObj "list" O.toArray c)->v (.done (.ret .none)) { s with heap:=x }) :
  wpAny (model I w) A (Builtin.«list.sort» ⟨[.ref D],[]⟩) v E s:=by
 have m:O.length+1≤sizeLine:=by rw[jz];lia
 have cond:O.toArray.size < 2:=by simpa using few
 have h:=get?_update_seq a λ_=>(#[]:Array Value);rw[list_sort_plain];refine wpAny_bind <|listItems_at a rfl <|wpAny_bind <|listUpdate_at a rfl (wpAny_bind <|seqEpoch_at h rfl <|wpAny_bind <|wpAny_newTuple (wpAny_bind <|wpAny_newList (wpAny_holding ?_) (Nat.zero_le _)) (by simpa using qA m)) (by simpa using qA m) (Nat.zero_le _);simp only[cond,iB];have k:∀b o,(s.heap.update D (Obj.mapSeq λ_=>(#[]:Array Value))).get? b=some o->((((s.heap.update D (Obj.mapSeq λ_=>(#[]:Array Value))).push { cls:=.type "tuple",data:=.seq O.toArray }).push { cls:=.type "list",data:=.seq ([]:LV).toArray })).get? b=some o:=
  λ_ _ q=>Heap.get?_push_of_some _ (Heap.get?_push_of_some _ q)
 have t:=k D _ h;refine wpAny_bind <|wpAny_pure <|wpAny_bind <|wpAny_pure ?_;refine wpAny_bind <|seqEpoch_at t rfl <|wpAny_bind <|listUpdate_at t rfl ?_ (Nat.zero_le _) (by rw[t_ few];simpa using Nat.le_succ_of_le (qA m));rw[t_ few];have Fh:=get?_update_seq t λ_=>O.toArray;simp only[bne_self_eq_false,Bool.false_eq_true,if_false,failedOf];refine wpAny_pure (g _ _ (λb o n e=>?_) Fh);exact((qe _ D _).2 b n).trans (k b o (((qe s.heap D _).2 b n).trans e))
theorem uJ(q:∀a u,Q a u->r a u):∀(t:KasT d)(u:Shared),t.kasWp (kas_ask I w A v O) Q u->t.kasWp (kas_ask I w A v O) r u
 | .ret a,u,h=>q a u h
 | .ask _ _ k,_,h=>wpAny_mono h (λb u e=>uJ q (k b) u e) λ_ _ x=>x
theorem Bb{a:Heap}{L l:Addr}{m:SV}{t:PN}{T:String}{o:Obj}{n:Nat}{G:VP}(F:Fr a L s.heap m)(N:News a L s.heap t)(Z:T="list"\/T="tuple")(ho:s.heap.get? l=some o)(hc:o.cls=.type T)(hd:o.data=.seq O.toArray n)(B:O.length < 64)
  (X:O.length < 2->∀D d c,s.heap.get? D=none->Fr a L d m->News a L d ((D,seqObj "list" O.toArray c)::t)->G (.ref D) { s with heap:=d })
  (Y:2≤O.length->∀D e d,s.heap.get? D=none->(∀q ∈ t,q.1≠D)->Fr a L d m->News a L d ((D,seqObj "list" #[] e)::t) ->
   wpAny (model I w) A.in1.in1 (keyKind' O.toArray) (λQ u=>(kas_sort O.length).kasWp (kas_ask I w A.in1.in1 Q O) (λp u=>PySem.W.KasFin a L m D e (p.toList.map λi=>O.getD i Value.none) (λu=>G (.ref D) u) u) u) (λ_ _=>False) { s with heap:=d }) :
  wpAny (model I w) A (call (.builtin "sorted") [.ref l]) G E s:=by
 have y:O.length≤sizeLine:=by rw[jz];lia
 refine Calls.call_function_entry (b:=Builtin.«sorted») kind_sorted plain_sorted entry_sorted (args_sorted1 (.ref l)) (wpAny_bind (m:=checkCount "sorted" 1 1 1) <|wpAny_pure <|wpAny_bind <|wpAny_collect_seq l Z ho hc hd (λh k=>wpAny_bind <|wpAny_newList ?_ y) y);have f:∀b,b=h.objs.size->s.heap.get? b=none:=λb hb=>by
  cases q:s.heap.get? b with
  |none=>rfl
  |some u=>exact absurd (Heap.lt_size (k b u q)) (by rw[hb];exact i7 _)
 have M:∀b u,s.heap.get? b=some u->(h.push { cls:=.type "list",data:=.seq O.toArray }).get? b=some u:=λb u e=>Heap.get?_push_of_some _ (k b u e);have j:(h.push { cls:=.type "list",data:=.seq O.toArray }).get? h.objs.size=some (seqObj "list" O.toArray 0):=Heap.get?_push_size _ rfl;have H:h.objs.size≠L:=λz=>by obtain⟨u,_,_,e,_⟩:=F.ns;rw[f L z.symm]at e;cases e
 have S:a.get? h.objs.size=none:=by
  rcases q:a.get? h.objs.size with _|u
  .rfl
  .have:=F.keep _ _ q;rw[f _ rfl]at this;cases this
 have neN:∀q ∈ t,q.1≠h.objs.size:=λq hq z=>by have:=(N q hq).1;rw[f _ z]at this;cases this
 have K:=F.keeps M;have P:=N.keeps M;refine wpAny_bind (wpAny_holding (wpAny_call_entry (b:=Builtin.«list.sort») slot_list_sort ⟨_,j,rfl⟩ entry_list_sort ?_ (args_list_sort _)));by_cases few:O.length < 2
 .refine Aj (s:={ s with heap:=h.push { cls:=.type "list",data:=.seq O.toArray } }) few j λd c J e=>⟨_,rfl,wpAny_pure ⟨_,rfl,X few _ d c (f _ rfl) ⟨?_,λb u q=>?_,F.above⟩ λq g=>?_⟩⟩
  .obtain⟨u,es,W,V,r⟩:=K.ns;exact⟨u,es,W,J L u H.symm V,r⟩
  .exact J b u (λz=>by rw[z,S]at q;cases q) (K.keep b u q)
  .rcases bq.mp g with rfl|g
   .exact⟨e,H,S⟩
   .exact⟨J _ _ (neN q g) (P q g).1,(P q g).2⟩
 .refine PySem.W.kat_list_sort (s:={ s with heap:=h.push { cls:=.type "list",data:=.seq O.toArray } }) K P j H S neN (by lia) B λe d R U=>?_;refine wpAny_mono (Y (by lia) _ e d (f _ rfl) neN R U) (λQ u hu=>?_) λ_ _ x=>x;exact uJ (λp v C=>C.mono λv C=>⟨_,rfl,wpAny_pure ⟨_,rfl,C⟩⟩) _ _ hu
end
noncomputable def isInt:P->Bool
 | .int _=>true
 |_=>false
noncomputable def ve:List P->List P->Option Bool
 | [],s=>some (decide (0 < s.length))
 |_::_,[]=>some false
 | .int a::x,.int b::y=>if a == b then ve x y else some (decide (a < b))
 | .str a::x,.str b::y=>if a=b then ve x y else some (decide (a.cps.toList < b.cps.toList))
 |_,_=>none
noncomputable def isFl:P->Bool
 | .int _=>true
 | .str _=>true
 |_=>false
def Kx:P->P->Option Bool
 | .int a,.int b=>some (decide (a < b))
 | .tup x,.tup y=>ve x y
 |_,_=>none
def lE:P->Bool
 | .tup (e::es)=>(e::es).all isInt
 |_=>false
def nS:P->Bool
 | .tup (.str _::es)=>es.all isFl
 |_=>false
def ja(d:List P)(i j:Nat):Option Bool:=match d[i]?,d[j]? with
 |some x,some y=>Kx x y
 |_,_=>none
def lX(d:List P):Option (List P):=if d.length < 2 then some d else if d.length < 64 then (B8 (ja d) (kas_sort d.length)).bind λp=>if p.size < 64 then some (p.toList.map λi=>d.getD i .non) else none else none
def sortable(d:List P):Bool:=(d.all isInt ||d.all lE) ||d.all nS
def jo(d:List P):Option P:=if sortable d=true then (lX d).map .lst else none
def IV(e:P)(u:Value):Prop:=∃i t,e=P.int i/\u=Value.int i t
def FV(e:P)(u:Value):Prop:=IV e u\/∃x t,e=P.str x/\u=Value.str x t
def KV(h:Heap)(d:P)(v:Value):Prop:=IV d v\/∃es a o n i,d=.tup es/\v=.ref a/\h.get? a=some o/\o.cls=.type "tuple"/\o.data=.seq (List.toArray i) n/\Paired FV es i
variable{l:Type}{R:d->l->Prop}
theorem fC:∀{s:List d}{a:List l}{i:Nat}{x:d},Paired R s a->s[i]? = some x->∃y,a[i]? = some y/\R x y
 |_,_,_,_,.nil,h=>by simp at h
 |_,_,0,x,.cons (b:=b) r _,h=>⟨b,rfl,by simp at h;subst h;exact r⟩
 |_,_,i+1,x,.cons _ n,h=>by obtain⟨y,e,r⟩:=fC (i:=i) n (by simpa using h);exact⟨y,by simpa using e,r⟩
theorem eP:∀{x:List d}{y:List l},Paired R x y->x.length=y.length
 |_,_,.nil=>rfl
 |_,_,.cons _ r=>by rw[bc,bc,eP r]
variable{h:Heap}
theorem tY:∀{s:List P}{O:LV},Paired (KV h) s O->s.all isInt=true->∃x,IntsAre O x
 |_,_,.nil,_=>⟨[],.nil⟩
 |d::s,_,.cons k r,q=>by
  rw[dY,Bool.and_eq_true]at q;obtain⟨x,i⟩:=tY r q.2;rcases k with ⟨n,t,rfl,rfl⟩|⟨es,a,o,n,e,rfl,_⟩
  .exact⟨n::x,.cons n t i⟩
  .exact nomatch q.1
section
variable{I:Program}{w:World}{A:Around}{E:VP}{s:Shared}
set_option tactic.hygienic true in
theorem Cr(r:Paired (KV s.heap) ds O)(q:ds.all isInt=true)(h:ja ds i L=some b)(c:a0 b s):kas_ask I w A oneType' O i L a0 s:=by
 unfold ja at h;split at h
 .rename_i x y k f;obtain⟨u,m,d⟩:=fC r k;obtain⟨v,p,g⟩:=fC r f;have j:=bj.mp q x (bH k);have l:=bj.mp q y (bH f);rcases d with ⟨n,t,rfl,rfl⟩|⟨es,a,o,n,e,rfl,_⟩
  .rcases g with ⟨z,H,rfl,rfl⟩|⟨es,a,o,n,e,rfl,_⟩
   .cases h;unfold kas_ask;rw[iA,iA,m,p];exact PySem.W.kat_lt_int c
   .exact nomatch l
  .exact nomatch j
 .cases h
theorem rD{k:Bool}{Q:Bool->Shared->Prop}:∀{es fs:List P}{n j:LV}{i:Nat}{b:Bool},Paired FV es n->Paired FV fs j->ve es fs=some b->k=decide (n.length < j.length)->Q b s->KatLex I w A true k Q (n.zip j) i s
 |_,_,_,_,i,b,.nil,r,h,f,c=>by cases h;rw[List.zip_nil_left];refine kat_nil ?_;rw[f,<- eP r];exact c
 |_,_,_,_,i,b,.cons _ _,.nil,h,f,c=>by
  have:b=false:=by unfold ve at h;cases h;rfl
  subst this;rw[List.zip_nil_right];refine kat_nil ?_;rw[f];simpa using c
 |_,_,_,_,i,b,.cons v p,.cons m q,h,f,c=>by
  rcases v with ⟨x,t,rfl,rfl⟩|⟨x,t,rfl,rfl⟩
  .rcases m with ⟨y,u,rfl,rfl⟩|⟨y,u,rfl,rfl⟩
   .rw [List.zip_cons_cons];refine kat_cons (wpAny_eqBool_int ?_);unfold ve at h;by_cases e:(x == y)=true
    .rw [e];rw[if_pos e]at h;exact kat_yes (rD p q h (by rw[f];simp) c)
    .rw [qu]at e;rw[e];rw[e,if_neg bO]at h;cases h;refine kat_no ?_;by_cases a:(i == 0)=true
     .rw [a];exact oneLt_int c
     .rw [qu]at a;rw[a];exact kat_one _ _ (PyProof.Rows.lt_int (show PySem.W.BoolBack Q (.bool _) s from c))
   .unfold ve at h;cases h
  .rcases m with ⟨y,u,rfl,rfl⟩|⟨y,u,rfl,rfl⟩
   .unfold ve at h;cases h
   .rw [List.zip_cons_cons];refine kat_cons (wpAny_eqBool_str ?_);unfold ve at h;by_cases e:x=y
    .rw [ir e];rw[if_pos e]at h;exact kat_yes (rD p q h (by rw[f];simp) c)
    .rw [br e];rw[if_neg e]at h;cases h;refine kat_no ?_;by_cases a:(i == 0)=true
     .rw [a];exact oneLt_str c
     .rw [qu]at a;rw[a];exact kat_one _ _ (PyProof.Rows.lt_str (show PySem.W.BoolBack Q (.bool _) s from c))
set_option tactic.hygienic true in
theorem w1{e:List P}{O:LV}{i j:Nat}{b:Bool}{C:Bool->Shared->Prop}(r:Paired (KV s.heap) e O)(q:∀d ∈ e,¬∃n,d=P.int n)(h:ja e i j=some b)(c:C b s):kas_ask I w A (tuples' true) O i j C s:=by
 unfold ja at h;split at h
 .rename_i x y p g;obtain⟨u,F,D⟩:=fC r p;obtain⟨v,K,E⟩:=fC r g;have J:=q x (bH p);have L:=q y (bH g);rcases D with ⟨n,t,rfl,rfl⟩|⟨es,a,o,n,B,rfl,rfl,S,Q,hd,M⟩
  .exact absurd ⟨_,rfl⟩ J
  .rcases E with ⟨G,T,rfl,rfl⟩|⟨z,N,R,G,l,rfl,rfl,f,H,k,m⟩
   .exact absurd ⟨_,rfl⟩ L
   .unfold kas_ask;rw[iA,iA,F,K];exact kat_lt S hd f k (rD M m h (by simp) c)
 .cases h
theorem tS:∀{s:List P}{O:LV},Paired (KV h) s O->s.all lE=true->∃fs,KatTups h O fs/\fs.length=s.length/\∀v ∈ fs,∃i t,v=Value.int i t
 |_,_,.nil,_=>⟨[],.nil,rfl,λ_ z=>nomatch z⟩
 |d::s,_,.cons k r,q=>by
  rw[dY,Bool.and_eq_true]at q;obtain⟨fs,f,e,b⟩:=tS r q.2;rcases k with ⟨n,t,rfl,rfl⟩|⟨es,a,o,n,w,rfl,rfl,p,c,hd,x⟩
  .exact nomatch q.1
  .cases x with
   |nil=>exact nomatch q.1
   |cons u x=>
    rcases u with ⟨i,t,rfl,rfl⟩|⟨i,t,rfl,rfl⟩;rotate_left
    .simp [lE,isInt]at q
    refine⟨.int i t::fs,.cons p c hd rfl f,by rw[bc,bc,e],λv m=>?_⟩;rcases bq.mp m with rfl|m
    .exact⟨i,t,rfl⟩
    .exact b v m
theorem tT:∀{s:List P}{O:LV},Paired (KV h) s O->s.all nS=true->∃fs,KatTups h O fs/\fs.length=s.length/\∀v ∈ fs,∃x t,v=Value.str x t
 |_,_,.nil,_=>⟨[],.nil,rfl,λ_ z=>nomatch z⟩
 |d::s,_,.cons k r,q=>by
  rw[dY,Bool.and_eq_true]at q;obtain⟨fs,f,b,c⟩:=tT r q.2;rcases k with ⟨n,t,rfl,rfl⟩|⟨es,a,o,n,u,rfl,rfl,w,p,hd,e⟩
  .exact nomatch q.1
  .cases e with
   |nil=>exact nomatch q.1
   |cons g e=>
    rcases g with ⟨i,t,rfl,rfl⟩|⟨i,t,rfl,rfl⟩
    .exact nomatch q.1
    .refine⟨.str i t::fs,.cons w p hd rfl f,by rw[bc,bc,b],λv m=>?_⟩;rcases bq.mp m with rfl|m
     .exact⟨i,t,rfl⟩
     .exact c v m
theorem CJ{s:List P}{f:P->Bool}(h:∀n,f (.int n)=false)(q:s.all f=true):∀d ∈ s,¬∃n,d=P.int n:=λd hd z=>by
 obtain⟨n,e⟩:=z;have:=bj.mp q d hd
 rw[e,h]at this;cases this
theorem B0{d:List P}{O:LV}(r:Paired (KV s.heap) d O)(q:sortable d=true)(m:2≤O.length) :
  wpAny (model I w) A (keyKind' O.toArray) (λu k=>k=s/\∀i j b C,ja d i j=some b->C b k->kas_ask I w A u O i j C k) (λ_ _=>False) s:=by
 unfold sortable at q;rw[i8,i8]at q;rcases q with (q|q)|q
 .obtain⟨g,p⟩:=tY r q;have o:keyKind' O.toArray=pure oneType':=by
   rcases O with _|⟨x,_|⟨y,z⟩⟩
   .exact absurd m (by simp)
   .exact absurd m (by simp)
   .exact keyKind_ints p
  rw[o];exact wpAny_pure ⟨rfl,λi j b C e c=>Cr r q e c⟩
 .obtain⟨fs,f,h,a⟩:=tS r q;refine kat_kind (T:=.type "int") f (by rw[h,eP r];lia) (λv n=>?_) rfl ⟨rfl,λi j b C e c=>w1 r (CJ (λ_=>rfl) q) e c⟩;obtain⟨i,t,rfl⟩:=a v n;exact PySem.W.Looks.of_peek (K:=[]) (λ_ _ z=>nomatch z) rfl
 .obtain⟨fs,f,h,a⟩:=tT r q;refine kat_kind (T:=.type "str") f (by rw[h,eP r];lia) (λv n=>?_) rfl ⟨rfl,λi j b C e c=>w1 r (CJ (λ_=>rfl) q) e c⟩;obtain⟨i,t,rfl⟩:=a v n;exact PySem.W.Looks.of_peek (K:=[]) (λ_ _ z=>nomatch z) rfl
end
section
variable{X:Cx}
theorem Ad:∀{es:List P}{s:List V}{j:LV},ci K F H es s->aK s j->es.all isFl=true->Paired FV es j
 | [],_,_,h,r,_=>by cases (show _=([]:List V) from h);cases r;exact .nil
 |e::es,_,_,h,r,q=>by
  obtain⟨y,x,rfl,p,pr⟩:=h;rw[dY,Bool.and_eq_true]at q;cases r with
  |cons v1 v2=>
   cases e with
   |int i=>cases (show y=.int i from p);obtain⟨t,rfl⟩:=v1;exact .cons (.inl ⟨i,t,rfl,rfl⟩) (Ad pr v2 q.2)
   |str i=>cases (show y=.str i from p);obtain⟨t,rfl⟩:=v1;exact .cons (.inr ⟨i,t,rfl,rfl⟩) (Ad pr v2 q.2)
   |_=>exact nomatch q.1
theorem zL(I:Inv X B N H s):∀{b:List P}{m:List V}{f:LV},ci X.K F H b m->aK m f->b.all (λd=>(isInt d ||lE d) ||nS d)=true->Paired (KV s.heap) b f
 | [],_,_,h,r,_=>by cases (show _=([]:List V) from h);cases r;exact .nil
 |d::b,_,_,h,r,q=>by
  obtain⟨x,D,rfl,p,g⟩:=h;rw[dY,Bool.and_eq_true]at q;cases r with
  |cons c S=>
   refine .cons ?_ (zL I g S q.2);cases d with
   |int i=>cases (show x=.int i from p);obtain⟨t,rfl⟩:=c;exact .inl ⟨i,t,rfl,rfl⟩
   |tup es=>
    obtain⟨a,E,rfl,C,K⟩:=p;cases c;obtain⟨j,A,⟨o,w,v,n,hd⟩,_⟩:=I.tuple C.sq;refine .inr ⟨es,a,o,n,j,rfl,rfl,w,v,hd,?_⟩;have z:es.all isFl=true:=by
     have k:=q.1;cases es with
     |nil=>rfl
     |cons e es=>
      have l:∀x:P,isInt x=true->isFl x=true:=λx h=>by cases x<;>first|rfl|cases h
      rw[i8]at k;rcases k with k|k
      .have y:(e::es).all isInt=true:=by simpa[isInt,lE] using k
       exact bj.mpr λx u=>l x (bj.mp y x u)
      .cases e with
       |str x=>rw[dY,Bool.and_eq_true];exact⟨rfl,k⟩
       |_=>exact nomatch k
    exact Ad K A z
   |_=>exact nomatch q.1
theorem oP(q:sortable r=true):r.all (λd=>(isInt d ||lE d) ||nS d)=true:=by
 unfold sortable at q;rw[i8,i8]at q;refine bj.mpr λx h=>?_
 rcases q with (q|q)|q
 .rw [bj.mp q x h];rfl
 .rw [bj.mp q x h,Bool.or_true];rfl
 .rw [bj.mp q x h,Bool.or_true]
theorem Gg(r:aK u v)(i:Nat):RelV (u.getD i .non) (v.getD i Value.none):=by
 rw[iA,iA];cases e:u[i]? with
 |none=>
  have l:=eP r;have:v[i]? = none:=by rw[qo]at e ⊢;lia
  rw[this];rfl
 |some x=>obtain⟨y,h,a⟩:=fC r e;rw[h];exact a
theorem vY(r:aK u v):∀p:List Nat,aK (p.map λi=>u.getD i .non) (p.map λi=>v.getD i Value.none)
 | []=>.nil
 |i::p=>.cons (Gg r i) (vY r p)
theorem yS(r:ci K F H v u):∀p:List Nat,ci K F H (p.map λi=>v.getD i .non) (p.map λi=>u.getD i .non)
 | []=>rfl
 |i::p=>by
  refine⟨_,_,rfl,?_,yS r p⟩;show RP K F H (v.getD i P.non) (u.getD i V.non);rw[iA,iA];cases e:v[i]? with
  |none=>
   have l:=r.length;have:u[i]? = none:=by rw[qo]at e ⊢;lia
   rw[this];rfl
  |some d=>obtain⟨x,h,a⟩:=r.get e;rw[h];exact a
theorem pP{r:Heap}{A:Nat}(I:Inv X B N H s)(y:s.heap.Ns X.env.locals m)(a:r.Ns X.env.locals m)(k:∀b o,b≠X.env.locals->s.heap.get? b=some o->r.get? b=some o):Inv X B N H { s with heap:=r,toks:=A }:=by
 have L:∀b u,H b=some u->b≠X.env.locals:=λb u e z=>by rw[z,I.free]at e;cases e
 refine I.step (g':=s.gens) (d':=s.drawn) (ch:=[]) (λ_ z=>nomatch z) (λb o h _ _ e _=>k b o h e) (λb o h _ _ e _=>⟨o.slots,k b o h e⟩) (λ_ _ _ _ n=>n) (λb o _ e=>?_) (λ_ _ e=>e) (λ_ _ _ e=>e) (λb G e=>⟨#[],by rw[e];simp⟩) (λK l=>?_) (λb u e=>?_) I.bare
 .by_cases h:b=X.env.locals
  .subst h;obtain⟨P,_,_,w,_⟩:=a;exact⟨P,w⟩
  .exact⟨o,k b o h e⟩
 .obtain⟨o,es,C,S,hd,D,t⟩:=y;obtain⟨E,i,g,f,d,F,p⟩:=l;rw[S]at f;cases f;rw[hd]at d;cases d;have:m=K:=funext λx=>(t x).symm.trans (p x);rw[<- this];exact a
 .refine (I.hok b u e).stay (λc v j q=>k c v ?_ q) (λ_ q=>q) λ_ _ q=>q;rcases j with z|z
  .rw [z];exact L b u e
  .exact L c _ z
theorem tR(k:∀b o,r.get? b=some o->h.get? b=some o)(F:Fr r L v m)(N:News r L v (jE r h L)):∀b o,b≠L->h.get? b=some o->v.get? b=some o:=λb o x e=>by
 cases q:r.get? b with
 |some u=>have:=k b u q;rw[e]at this;cases this;exact F.keep b _ q
 |none=>exact(N (b,o) (tL x q e)).1
theorem Ek{P:Program}{w:World}{H:Hp}{h:Heap}{a:Addr}{o:HO}(x:cZ P w H h a o):∃u,h.get? a=some u:=by
 cases o with
 |lst s=>obtain⟨_,_,_,_,e⟩:=x;exact⟨_,e⟩
 |tup s=>obtain⟨_,_,_,_,e,_⟩:=x;exact⟨_,e⟩
 |dK k=>obtain⟨_,_,_,_,_,_,_,e,_⟩:=x;exact⟨_,e⟩
 |dT k=>obtain⟨_,_,_,_,_,_,_,e,_⟩:=x;exact⟨_,e⟩
 |set S n=>obtain⟨_,_,_,_,e,_⟩:=x;exact⟨_,e⟩
 |ins C d fs=>obtain⟨_,_,_,e,_⟩:=x;exact⟨_,e⟩
 |own y=>exact x
 |xd fs=>obtain⟨_,⟨_,_,_,e,_⟩,_⟩:=x;exact⟨_,e⟩
 |rng lo i=>obtain⟨_,_,_,e⟩:=x;exact⟨_,e⟩
 |frz b u=>exact⟨_,x.1⟩
 |tbl p=>exact⟨_,(show h.get? a=some _ from x)⟩
 |met f y=>exact⟨_,(show h.get? a=some _ from x)⟩
 |ext c=>exact x.2.1
theorem zV{B:PN}{N:L2.St}{H:Hp}{s:Shared}{D:Addr}(I:Inv X B N H s)(h:s.heap.get? D=none):H D=none:=by
 cases q:H D with
 |none=>rfl
 |some v=>obtain⟨u,e⟩:=Ek (I.hok D v q);rw[h]at e;cases e
theorem xN{B:PN}{N:L2.St}{H:Hp}{s:Shared}{t:Heap}{S:Nat}{m:SV}{D:Addr}{u:HO}(I:Inv X B N H s)(y:s.heap.Ns X.env.locals m)(h:t.Ns X.env.locals m)(k:∀b o,b≠X.env.locals->s.heap.get? b=some o->t.get? b=some o)(j:s.heap.get? D=none)(i:cZ X.prog X.w (cg H D u) t D u):Inv X B N (cg H D u) { s with heap:=t,toks:=S }:=by
 have f:=zV I j;have J:∀b o,s.heap.get? b=some o->b≠D:=λb o e z=>by rw[z,j]at e;cases e
 have r:∀b v,H b=some v->b≠D:=λb v e z=>by rw[z,f]at e;cases e
 have F:=pP (A:=S) I y h k;refine I.step (g':=s.gens) (d':=s.drawn) (ch:=[]) (λ_ z=>nomatch z) (λb o L _ _ e _=>k b o L e) (λb o L _ _ e _=>⟨o.slots,k b o L e⟩) (λb o _ e n=>(av (J b o e)).trans n) (λb o _ e=>?_) (λb O e=>(av (r b _ e)).trans e) (λb o v e=>(av (r b _ e)).trans e) (λb U e=>⟨#[],by rw[av (r b _ e),e];simp⟩) (λG A=>?_) (λb v e=>?_) I.bare
 .by_cases L:b=X.env.locals
  .subst L;obtain⟨M,_,_,g,_⟩:=h;exact⟨M,g⟩
  .exact⟨o,k b o L e⟩
 .obtain⟨o,es,Q,C,hd,R,p⟩:=y;obtain⟨T,P,K,a,d,E,w⟩:=A;rw[C]at a;cases a;rw[hd]at d;cases d;have:m=G:=funext λx=>(p x).symm.trans (w x);rw[<- this];exact h
 .by_cases l:b=D
  .subst l;rw[aJ]at e;cases e;exact i
  .rw [av l]at e;exact(F.hok b v e).stay (λ_ _ _ q=>q) (λc q=>(av (r c _ q)).trans q) λc O q=>(av (r c _ q)).trans q
set_option tactic.hygienic true in
theorem sI:eF X (.builtin "sorted") (λxs H Q=>∃F a A K b,xs=[.ref a]/\(hX X.K H a A\/sO X.K H a A)/\ci X.K F H K A/\sortable K=true/\lX K=some b/\∀l z,H l=none->ci X.K F H b z->Q (.ref l) (cg H l (.lst z))):=by
 intro B s N H xs us Q I r h;obtain⟨F,a,A,K,b,rfl,J,L,hs,k,q⟩:=h;obtain⟨u,rfl,rx⟩:=vals1 r;cases rx;obtain⟨m,O⟩:=I.fr;have w:∀(T:String)(hT:T="list"\/T="tuple")(t:LV)(o:Obj)(n:Nat),aK A t->s.heap.get? a=some o->o.cls=.type T->o.data=.seq t.toArray n->wpAny (model X.prog X.w) X.A (call (.builtin "sorted") [.ref a]) (EP X B N Q) X.xe s:=by
  intro T hT t o n M G E hd;have W:=L.length;have Y:=eP M;have S:K.length < 64:=by
   unfold lX at k;split at k
   .lia
   .split at k
    .lia
    .cases k
  have C:∀(z:List V)(j:LV)(D:Addr)(f:Heap)(c:Nat),aK z j->ci X.K F H b z->j.length≤64->s.heap.get? D=none->Fr X.base X.env.locals f m->News X.base X.env.locals f ((D,seqObj "list" j.toArray c)::jE X.base s.heap X.env.locals)->EP X B N Q (.ref D) { s with heap:=f }:=
   λz j D f c vz rz hz P d y=>⟨.ref D,_,xN (S:=s.toks) I O.ns d.ns (tR I.bk d λp Z=>y p (.tail _ Z)) P (show cZ X.prog X.w _ f _ (.lst z) from ⟨by rw[eP vz,jz];lia,j,c,vz,(y _ (.head _)).1⟩),rfl,q _ z (zV I P) rz⟩
  refine Bb O (zA (g:=X.base)) hT G E hd (by lia) (λfew D f c P d y=>?_) λtwo D e f P ne d y=>?_
  .unfold lX at k;rw[if_pos (by lia)]at k;cases k;exact C A t D f c M L (by lia) P d y
  .unfold lX at k;rw[if_neg (by lia),if_pos S]at k;obtain⟨p,ep,k⟩:=Option.bind_eq_some_iff.mp k;split at k;case isFalse=>cases k
   rename_i ps;cases k;have I1:Inv X B N H { s with heap:=f }:=pP (A:=s.toks) I O.ns d.ns (tR I.bk d λp Z=>y p (.tail _ Z));have U:B8 (ja K) (kas_sort t.length)=some p:=by rw[<- Y,<- W];exact ep
   refine wpAny_mono (B0 (s:={ s with heap:=f }) (zL I1 L M (oP hs)) hs two) (λκ v hv=>?_) λ_ _ x=>x;obtain⟨rfl,R⟩:=hv;exact Ak (a:=p) (Q:=λp u=>PySem.W.KasFin X.base X.env.locals m D e (p.toList.map λi=>t.getD i Value.none) (λu=>EP X B N Q (.ref D) u) u) R (PySem.W.KasFin.intro d y (.head ne) λh2 c F2 N2=>C _ _ D h2 c (vY M p.toList) (yS L p.toList) (by rw[a9,li];lia) P F2 N2) _ U
 rcases J with J|J
 .obtain⟨t,r',pl,hz⟩:=I.list J;obtain⟨o,G,E,n,hd⟩:=pl.isList;exact w "list" (.inl rfl) t o n r' G E hd
 .obtain⟨t,r',⟨o,G,E,n,hd⟩,hz⟩:=I.tuple J;exact w "tuple" (.inr rfl) t o n r' G E hd
noncomputable def Cz:List D->Option (List P)
 | []=>some []
 | .p v::r=>(Cz r).map (v::·)
 | .ref _::_=>none
theorem yv:∀{d:List D}{O:List P},Cz d=some O->d=O.map .p
 | [],O,h=>by cases h;rfl
 | .p v::r,O,h=>by
  cases e:Cz r with
  |none=>simp only[Cz,e]at h;cases h
  |some w=>simp only[Cz,e]at h;cases h;rw[yv e];rfl
 | .ref _::_,O,h=>by cases h
theorem CC:∀{O:List P}{s:List V},dm K F H m (O.map .p) s->ci K F H O s
 | [],_,h=>h
 |_::_,_,h=>by obtain⟨x,r,e,a,n⟩:=h;exact⟨x,r,e,a,CC n⟩
noncomputable def Bf:P->Option (List P)
 | .lst x=>some x
 | .ro x=>some x
 | .tup x=>some x
 |_=>none
def xn:D->aD->Option (List P)
 | .p v,_=>Bf v
 | .ref i,S=>match S[i]? with
  |some (.lst d)=>Cz d
  |some (.fz v)=>Bf v
  |_=>none
def pB(r:EE):EV:=λL S=>aG (r L S) λd h=>match xn d h with
 |some x=>(jo x).map λv=>(v,h)
 |none=>none
theorem wf(p:RP K F H w v)(h:Bf w=some u):∃a y,v=.ref a/\(hX K H a y\/sO K H a y)/\ci K F H u y:=by
 cases w with
 |tup d=>obtain⟨a,y,rfl,t,r⟩:=p;cases h;exact⟨a,y,rfl,.inr t.sq,r⟩
 |lst d=>obtain⟨a,y,rfl,t,r⟩:=p;cases h;exact⟨a,y,rfl,.inl t.sq,r⟩
 |ro d=>obtain⟨a,y,rfl,t,r⟩:=p;cases h;exact⟨a,y,rfl,.inl t.sq,r⟩
 |_=>cases h
set_option tactic.hygienic true in
theorem Bg(r:Rel K F H m S)(p:RD K F H m u v)(h:xn u S=some L):∃a y,v=.ref a/\(hX K H a y\/sO K H a y)/\ci K F H L y:=by
 cases u with
 |p w=>exact wf p h
 |ref i=>
  obtain⟨a,rfl,x⟩:=p;simp only[xn]at h;split at h
  .rename_i d es;obtain⟨y,e,s⟩:=r.obj i a _ x es;rw[yv h]at s;exact⟨a,y,rfl,.inl (hX.of e),CC s⟩
  .rename_i w es;exact wf (r.obj i a _ x es) h
  .cases h
set_option tactic.hygienic true in
theorem yq(j:Gl X "sorted")(y:X.mg "sorted"=none)(i:PE X e (tE X.K z))(n:starEach [e] X.env=[(false,eval e X.env)]:=by rfl):PE X (.Call (.Name "sorted" p) [e] [] J) (tV X.K (pB z)):=
 (nM sI j y PyProof.Rows.boot_sorted (gj i iF (by rw[n];rfl)) (by decide) (by decide) (by rw[n];rfl) rfl).imp' λN H Q s=>by
  obtain⟨F,m,L,S,d,I,r,l,q,k⟩:=s;obtain⟨x,t,w,q⟩:=ai q;refine⟨F,m,L,S,x,t,r,l,w,λv c P G D f A=>?_⟩;split at q
  .rename_i b g;unfold jo at q;split at q
   .rename_i n;cases o:lX b with
    |none=>rw[o]at q;cases q
    |some u=>rw[o]at q;cases q;obtain⟨a,E,rfl,K,B⟩:=Bg f A g;exact⟨c,a,E,b,u,rfl,K,B,n,o,λh M s C=>k _ _ P _ (D.trans (bQ s).stp) (f.grow (bQ s)) (.newLst s C)⟩
   .cases q
  .cases q
end
noncomputable def Mg(K:FG)(e:Bool)(a:Addr):It:=if e=true then Ct K a else Js K a
inductive tIOI(K:FG)(en:Bool)(fe:EE)(σ:L2.St)(H:Hp)(R:It->Hp->Prop):Prop
 |mk (F:Aa) (m:List Addr) (L:Lc) (S:aD) (j:Nat) (S':aD) (ds:List D) (h0_:Rel K F H m S) (h1_:RL K F H m σ L) (h2_:fe L S=some (.ref j,S')) (h3_:S'[j]? = some (.lst ds)) (h4_:∀a F' m' H',Stp F m H F' m' H'->Rel K F' H' m' S'->m'[j]? = some a->R (Mg K en a) H'):tIOI K en fe σ H R
section
variable{X:Cx}{J:Pos}
theorem vO:eF X (.type "range") (λx H Q=>∃j:Int,x=[.int j]/\∀r,H r=none->Q (.ref r) (cg H r (.rng 0 j))):=by intro B s N H x n Q I r h;obtain⟨j,rfl,q⟩:=h;obtain⟨u,rfl,a⟩:=vals1 r;obtain⟨t,rfl⟩:=a;refine call_range_1 ?_;exact⟨.ref s.heap.objs.size,_,I.laid (o:=.rng 0 j) (λb o e=>Heap.get?_push_of_some _ e) (Nat.le_refl _) ⟨_,_,_,Heap.get?_push_size _ rfl⟩,rfl,q _ (I.hok.fresh (Nat.le_refl _))⟩
theorem pJ:∀{s:List d}{e:List l},s.length=e.length->(∀(i:Nat) x y,s[i]? = some x->e[i]? = some y->R x y)->Paired R s e
 | [],[],_,_=>.nil
 | [],_::_,h,_=>by simp at h
 |_::_,[],h,_=>by simp at h
 |x::s,y::e,h,k=>.cons (k 0 x y rfl rfl) (pJ (by simpa using h) λi a b n f=>k (i+1) a b (by simpa using n) (by simpa using f))
theorem vg(h:ItemsOf (λi v=>∃t,v=Value.int (0+i * 1) t) r n):aK ((List.range n).map λ(i:Nat)=>V.int (i:Int)) r.toList:=by
 obtain⟨z,f⟩:=h;refine pJ (by simp[z]) λi x y a c=>?_;rw[List.getElem?_map]at a;cases e:(List.range n)[i]? with
 |none=>rw[e]at a;cases a
 |some k=>
  rw[e]at a;cases a;have b:k=i:=by have:=List.getElem?_eq_some_iff.mp e;obtain⟨m,s⟩:=this;simpa using s.symm
  subst b;obtain⟨t,rfl⟩:=f k y (by simpa using c);exact⟨t,by simp⟩
theorem uH(a:X.calm=true):eF X (.type "list") (λk H Q=>∃r j,k=[.ref r]/\H r=some (.rng 0 j)/\j.natAbs < 1000000/\∀l,H l=none->Q (.ref l) (cg H l (.lst ((List.range j.toNat).map λ(i:Nat)=>V.int (i:Int))))):=by
 intro B s N H k z Q I r h;obtain⟨d,j,rfl,p,y,q⟩:=h;obtain⟨u,rfl,w⟩:=vals1 r;cases w;obtain⟨t,u,v,o⟩:=I.hok d _ p;refine call_list_range (n:=j.toNat) (I.ok.hd a) o (small_one (by lia) (by lia) (by lia) (by lia)) (by rw[rangeSize_one];split<;>lia) (by lia) λf g x c m e b=>?_
 exact⟨.ref s.heap.objs.size,_,I.laid (t':=g) m (Nat.le_refl _) (show cZ X.prog X.w _ f _ (.lst _) from ⟨by rw[a9,List.length_range];exact aM (by lia:j.toNat≤1000000) (by decide),x.toList,c,vg b,by simpa using e⟩),rfl,q _ (I.hok.fresh (Nat.le_refl _))⟩
def Ft(a:EV):EV:=λL S=>aG (a L S) λv h=>match v with
 | .int j=>if decide (j.natAbs < 1000000)=true then some (.lst (intsFrom 0 j.toNat),h) else none
 |_=>none
theorem tq:∀s:List Nat,ci K F H (s.map λ(i:Nat)=>P.int (0+(i:Int))) (s.map λ(i:Nat)=>V.int (i:Int))
 | []=>rfl
 |i::s=>⟨_,_,rfl,by show V.int _=V.int _;rw[c6],tq s⟩
set_option tactic.hygienic true in
theorem AT(h:X.calm=true)(K:Gl X "list")(A:X.mg "list"=none)(g:Gl X "range")(s:X.mg "range"=none)(y:PE X a (tV X.K C))(t:starEach [a] X.env=[(false,eval a X.env)])
  : PE X (.Call (.Name "list" u) [.Call (.Name "range" p2) [a] [] c2] [] c1) (tV X.K (Ft C)):=
 (lA (uH h) K A PyProof.Rows.boot_list (gj (lA vO g s boot_range (gj y iF (by rw[t];rfl)) (by decide) (by decide) (by rw[t];rfl) rfl) iF rfl) (by decide) (by decide) rfl rfl).imp' λN H Q e=>by
  obtain⟨F,m,L,S,d,G,r,l,q,k⟩:=e;obtain⟨x,w,i,q⟩:=ai q;refine⟨F,m,L,S,x,w,r,l,i,λv f B b E D u=>?_⟩;cases x with
  |int j=>
   dsimp only at q;split at q
   .rename_i o;have P:j.natAbs < 1000000:=of_decide_eq_true o;cases q;cases (show v=.int j from u);refine⟨j,rfl,λp n=>⟨p,j,rfl,aJ,P,λz e=>?_⟩⟩;have c:Grow f b f (cg b p (.rng 0 j)):=b9 n;exact k _ _ B _ (E.trans (c.stp.trans (bQ e).stp)) ((D.grow c).grow (bQ e)) (.newLst e (tq _))
   .cases q
  |_=>cases q
end
section
variable{X:Cx}{J:Pos}
theorem xg{I:Program}{w:World}{A:Around}{E:VP}{s:Shared}{t l:Addr}{i:Array Value}{v u:Value}{lo x:Option Int}{Q:VP}(h:IsTup s.heap t i)(a:s.heap.IsSliceOf l v u .none)(p:IsPart v lo)(b:IsPart u x)
  (k:HT.eH i.size 0 lo=0) (f:HT.eH i.size i.size x=i.size) (q:Q (.ref t) s):wpAny (model I w) A (getItem (.ref t) (.ref l)) Q E s:=by
 have T:s.TypeIs (.ref l) "slice":=by obtain⟨o,e,n,_⟩:=a;exact⟨o,e,n⟩
 unfold getItem;try with_reducible refine wpAny_holding ?_
 first|refine wpAny_bind (wpAny_pure ?_)|skip
 refine wpAny_bind (wpAny_sequenceKey h.typeIs (by decide) ?_);refine wpAny_bind (wpAny_callSpecial?_slot (name:=Str.ofString "__getitem__") h.typeIs j0 (wpAny_call_entry j0 h.typeIs entry_tuple_getitem ?_ (args_tuple_getitem _ _)));show wpAny _ _ (Builtin.Tuple.tupleItemsOf (.ref t) >>= _) _ _ s;refine wpAny_bind (tupleItemsOf_ h (wpAny_bind (kz T ?_)));rw[if_pos (by decide)];refine wpAny_bind (HT.h_ a p b ?_);rw[k,f];have y:((((0:Nat):Int) == 0 && (1:Int) == 1 && (i.size-0) == i.size)=true):=by simp
 show wpAny _ _ (if ((((0:Nat):Int) == 0 && (1:Int) == 1 && (i.size-0) == i.size)=true) then _ else _) _ _ s;rw[if_pos y];refine wpAny_bind (wpAny_bind (kz h.typeIs ?_));refine wpAny_pure ?_;rw[if_pos (by rfl)];first
  |exact wpAny_bind (wpAny_pure (wpAny_pure ⟨_,rfl,wpAny_pure q⟩))
  |exact wpAny_bind (wpAny_rule (wpAny_pure ⟨_,rfl,wpAny_pure q⟩))
  |exact wpAny_pure ⟨_,rfl,wpAny_pure q⟩
theorem yJ:Dd X (λx lo n H Q=>∃a e,x=.ref a/\sO X.K H a e/\HT.eH e.length 0 lo=0/\HT.eH e.length e.length n=e.length/\Q (.ref a) H):=by
 intro B s N H x v w g lo n d Q I m b p u h;obtain⟨a,e,rfl,c,k,f,q⟩:=h;cases m;obtain⟨i,r,t,_⟩:=I.tuple c;have l:i.toArray.size=e.length:=by rw[List.size_toArray];exact r.length.symm
 exact⟨"tuple",_,j0.lookup,t.typeIs,xg t b p u (by rw[l];exact k) (by rw[l];exact f) ⟨.ref a,H,I,rfl,q⟩⟩
def Cc:P->Option Int->Option Int->Option P
 | .tup s,lo,h=>some (.tup (cut s lo h))
 |x,lo,h=>ML x lo h
def lr(a:EV)(lo n:EO):EV:=λL S=>aG (a L S) λx h=>aG (lo L h) λi e=>aG (n L e) λj s=>(Cc x i j).map λv=>(v,s)
theorem JJ{e:Expr}{lo A:Option Expr}{C:EV}{P K:EO}{J p2:Pos}(V:PE X e (tV X.K C))(Y:PO X lo (tO X.K P))(W:PO X A (tO X.K K)):PE X (.Subscript e (.Slice lo A none p2) J) (tV X.K (lr C P K)):=
 (y_ (Bc.or (DM.or yJ)) V Y W).imp' λN H Q Z=>by
  obtain⟨F,m,L,S,d,S',r,l,q,k⟩:=Z;obtain⟨x,z,O,q⟩:=ai q;obtain⟨i,o,R,q⟩:=ai q;obtain⟨j,M,T,q⟩:=ai q;refine⟨F,m,L,S,x,z,r,l,O,λv D m1 H1 g r1 p1=>?_⟩;refine⟨D,m1,L,z,i,o,r1,l.mono g,R,λE m2 H2 y r2=>?_⟩;refine⟨E,m2,L,o,j,M,r2,(l.mono g).mono y,T,λG b I B c=>?_⟩;have u:=RP.mono B (RP.mono y p1);have w:=g.trans (y.trans B);cases x with
  |lst f=>cases q;obtain⟨a,s,rfl,t,n⟩:=u;exact .inl ⟨a,s,rfl,t.sq,λp h=>k _ _ b _ (w.trans (bQ h).stp) (c.grow (bQ h)) (.newLst h (n.cut i j))⟩
  |ro f=>cases q;obtain⟨a,s,rfl,t,n⟩:=u;exact .inl ⟨a,s,rfl,t.sq,λp h=>k _ _ b _ (w.trans (bQ h).stp) (c.grow (bQ h)) (.newLst h (n.cut i j))⟩
  |tup f=>
   obtain⟨a,s,rfl,t,n⟩:=u;cases q;by_cases hw:HT.eH s.length 0 i=0/\HT.eH s.length s.length j=s.length
   .have U:cut f i j=f:=by
     unfold cut;rw[n.length,hw.1,hw.2,mN,Nat.sub_zero,<- n.length,mV]
    rw[U]at k;exact .inr (.inr ⟨a,s,rfl,t.sq,hw.1,hw.2,k _ G b I w c ⟨a,s,rfl,t,n⟩⟩)
   .exact .inr (.inl ⟨a,s,rfl,t.sq,hw,λp h=>k _ _ b _ (w.trans (b9 h).stp) (c.grow (b9 h)) (.newTup h (n.cut i j))⟩)
  |_=>cases q
abbrev bU:List P->Option P:=jq
variable{e:Expr}{es:Ab}{fs:gf}{p:Pos}
theorem Dl(g:Gl X "int")(m:X.mg "int"=none)(a:PA X (e::es) (oN X.K fs))(x:starEach (e::es) X.env=(false,eval e X.env)::starEach es X.env)(h:(backTo J (starEach es X.env)).any (·.1)=false) :
  PE X (.Call (.Name "int" p) (e::es) [] J) (tV X.K (ae bU fs)):=uV Ck g m PyProof.Rows.boot_int a (by decide) (by decide) x h
inductive PEs(X:Cx):Ab->List EV->Prop
 |nil:PEs X [] []
 |cons {e es f fs}:PE X e (tV X.K f)->PEs X es fs->PEs X (e::es) (f::fs)
def v0(a b c:EV):EV:=λL S=>aG (a L S) λd h=>aG (b L h) λy x=>aG (c L x) λz e=>match d with
 | .dct s O=>match b8 y with
  |some k=>some ((bI k s O).getD z,e)
  |none=>none
 |_=>none
theorem pp:∀{k:List (bB×V)}{d:List P},ci K F H d (k.map (·.2))->bI u (k.map (·.1)) d=none->fR k u=none
 | [],d,r,h=>rfl
 |(s,v)::k,[],r,h=>by have:=r.length;simp at this
 |(s,v)::k,b::d,r,h=>by
  obtain⟨x,m,e,p,n⟩:=r;rw[List.map_cons]at e;injection e with c f;simp only[List.map_cons,bI]at h;by_cases a:s=u
  .rw [if_pos a]at h;cases h
  .rw [if_neg a]at h;rw[<- f]at n;rw[fQ (p:=(s,v)) a];exact pp n h
set_option tactic.hygienic true in
theorem Dm(hu:X.A.units+1 < cLine)(ho:PE X o (tV X.K T))(ha:PE X a (tV X.K C))(hb:PE X b (tV X.K U))(m:M2 X o "get" ap a b cp):PE X (.Call (.Attribute o "get" ap) [a,b] [] cp) (tV X.K (v0 T C U)):=
 (zi hu ho ha hb m).imp' λN H Q hz=>by
  obtain⟨F,m,L,S,d,S',r,l,q,k⟩:=hz;obtain⟨x,P,R,q⟩:=ai q;obtain⟨y,A,V,q⟩:=ai q;obtain⟨z,M,W,q⟩:=ai q;refine⟨F,m,L,S,x,P,r,l,R,λv I m1 H1 j r1 p1=>?_⟩;cases x with
  |dct ks O=>
   obtain⟨a,s,rfl,g,B,Y,ra⟩:=id p1;refine⟨a,rfl,.inl ⟨s,.inl B⟩,?_⟩;refine⟨I,m1,L,P,y,A,r1,l.mono j,V,λvy J m2 H2 f r2 p2=>?_⟩;refine⟨J,m2,L,A,z,M,r2,(l.mono j).mono f,W,λvz K D t c E p3=>?_⟩;have h:t a=some (.dK s):=(f.trans c).frk _ _ g B;have e:=ci.mono c (ci.mono f ra);have py:=RP.mono c p2;dsimp only at q;split at q
   .rename_i i p;cases q;have u:=fS p py;subst u Y;have G:=j.trans (f.trans c);cases n:bI i (s.map (·.1)) O with
    |none=>have hm:=pp e n;refine⟨none,by rw[<- hm];exact hZ.k h,?_⟩;rw[n]at k;exact k vz K D t G E p3
    |some w=>obtain⟨v,Z,h2⟩:=lq e n;refine⟨some v,by rw[<- Z];exact hZ.k h,?_⟩;rw[n]at k;exact k v K D t G E h2
   .cases q
  |_=>cases q
def IA(w:World):List DictEntry->List (Str×P)->Prop
 | [],[]=>True
 |e::es,(k,p)::r=>(∃t,e.key=.str k t)/\e.hash=hashStr w k/\(∃v,RelV v e.val/\∀K F H,RP K F H p v)/\IA w es r
 |_,_=>False
def K9(w:World)(K:FG)(m:SV)(x:Str)(k:List (Str×P)):Prop:=
 ∃a o es e,m x=some (.ref a)/\K.lookup a=some o/\o.ExactDict/\o.data=.dict es e/\IA w es.toList k/\(k.map (·.1)).Nodup
end
noncomputable def Gs:List bB->List P->Option (List (Str×P))
 | [],[]=>some []
 | .inr k::s,v::O=>(Gs s O).map λr=>(k,v)::r
 |_,_=>none
noncomputable def zU:P->Bool
 | .dct _ _=>true
 |_=>false
def k8(w:World)(K:FG)(m:SV)(x:Str)(v:P):Prop:=(zU v=false->vS K m x v)/\∀s O,v=.dct s O->∃k,Gs s O=some k/\K9 w K m x k
variable{x:Str}
theorem k8.plain(h:vS K r x v)(a:zU v=false):k8 w K r x v:=⟨λ_=>h,λk O e=>by subst e;cases a⟩
end Ev
namespace Ev
open PySem PySem.Spec PyProof.Rows L2
variable{L:Type}
noncomputable def jM(x:List L)(lo h st:Option Int):List L:=
 (sliceRange (sliceBounds lo h st x.length).1 (sliceBounds lo h st x.length).2.1 (sliceBounds lo h st x.length).2.2).filterMap (x[·]?)
theorem pi(r:aK n k):∀s:List Nat,aK (s.filterMap (n[·]?)) (s.filterMap (k[·]?))
 | []=>.nil
 |i::s=>by
  have t:=pi r s;cases h:n[i]? with
  |none=>simp only[j8,h,aK.none_of r h];exact t
  |some x=>obtain⟨u,a,e⟩:=r.get h;simp only[j8,h,a];exact .cons e t
theorem ci.get'{K:FG}{F:Aa}{H:Hp}:∀{h:List P}{s:List V}(_:ci K F H h s)(i:Nat),(h[i]? = none/\s[i]? = none)\/∃d x,h[i]? = some d/\s[i]? = some x/\RP K F H d x
 | [],s,r,i=>by cases (show s=[] from r);simp
 |d::h,s,r,i=>by
  obtain⟨x,a,rfl,p,G⟩:=r;cases i with
  |zero=>exact .inr ⟨d,x,rfl,rfl,p⟩
  |succ i=>simpa using ci.get' G i
theorem tp{K:FG}{F:Aa}{H:Hp}{e:List P}{n:List V}(r:ci K F H e n):∀s:List Nat,ci K F H (s.filterMap (e[·]?)) (s.filterMap (n[·]?))
 | []=>rfl
 |i::s=>by
  have t:=tp r s;rcases r.get' i with ⟨h,a⟩|⟨d,x,h,a,p⟩
  .simp only[j8,h,a];exact t
  .simp only[j8,h,a];exact⟨x,_,rfl,p,t⟩
section
variable{X:Cx}
def A1(a:EV)(lo k st:EO):EV:=λL S=>aG (a L S) λx h=>aG (lo L h) λi e=>aG (k L e) λj s=>aG (st L s) λc n=>match x,c with
 | .lst f,some c=>if c=0 then none else some (.lst (jM f i j (some c)),n)
 |_,_=>none
set_option tactic.hygienic true in
theorem JI{e:Expr}{lo hi:Option Expr}{st:Expr}{Y:EV}{fl fh v:EO}{O G:Pos}(he:PE X e (tV X.K Y))(hl:PO X lo (tO X.K fl))(hh:PO X hi (tO X.K fh))(hs:PO X (some st) (tO X.K v)):PE X (.Subscript e (.Slice lo hi (some st) G) O) (tV X.K (A1 Y fl fh v)):=by
 intro pins s σ H Q I h;obtain⟨F,m,L,S,d,S',r,l,q,k⟩:=h;obtain⟨x,S1,e1,q⟩:=ai q;obtain⟨i,S2,e2,q⟩:=ai q;obtain⟨j,S3,e3,q⟩:=ai q;obtain⟨c,S4,e4,q⟩:=ai q;refine Subscript_ (cG (he pins s σ H (λn C=>∃u D,Stp F m H u D C/\Rel X.K u C D S1/\RP X.K u C x n) I ⟨F,m,L,S,x,S1,r,l,e1,λn u D C s1 r1 p1=>⟨u,D,s1,r1,p1⟩⟩) λn z1 g=>?_);obtain⟨y,C,I1,ry,u,D,p,r1,p1⟩:=g;refine wpAny_Slice (cG (hl pins z1 σ C (λo M=>o=i/\∃A E,Stp u D C A E M/\Rel X.K A M E S2) I1 ⟨u,D,L,S1,i,S2,r1,l.mono p,e2,λA E M s2 r2=>⟨rfl,A,E,s2,r2⟩⟩) λW z2 g=>?_);obtain⟨K,M,I2,pl,eo2,A,E,w,r2⟩:=g;subst eo2;refine cG (hh pins z2 σ M (λo N=>o=j/\∃B J,Stp A E M B J N/\Rel X.K B N J S3) I2 ⟨A,E,L,S2,j,S3,r2,(l.mono p).mono w,e3,λB J N s3 r3=>⟨rfl,B,J,s3,r3⟩⟩) λvu z3 g=>?_
 obtain⟨P,N,I3,pu,eo3,B,J,oH,r3⟩:=g;subst eo3;refine cG (hs pins z3 σ N (λo R=>o=c/\∃U T,Stp B J N U T R/\Rel X.K U R T S4) I3 ⟨B,J,L,S3,c,S4,r3,((l.mono p).mono w).mono oH,e4,λU T R s4 r4=>⟨rfl,U,T,s4,r4⟩⟩) λZ f g=>?_;obtain⟨o4,R,I4,ps,eo4,U,T,CB,r4⟩:=g;subst eo4;have I5:L2.Inv X pins σ R { f with heap:=f.heap.push { cls:=.type "slice",data:=.fields #[W,vu,Z] } }:=I4.kept (t':=f.toks) λb ob q=>Heap.get?_push_of_some _ q;have px:=RP.mono CB (RP.mono oH (RP.mono w p1));have ss:=p.trans (w.trans (oH.trans CB));cases x with
 |lst ds=>
  cases o4 with
  |none=>cases q
  |some c=>
   dsimp only at q;split at q
   .cases q
   .rename_i hc0;cases q;obtain⟨a,xs,rfl,ta,ra⟩:=px;cases (show n=Value.ref a from ry);obtain⟨t,rv,ht,g⟩:=I5.list ta.sq;show wpAny (model X.prog X.w) X.A (subscriptTail e (.Slice lo hi (some st) G) (.ref a) (.ref f.heap.objs.size)) (EP X pins σ Q) X.xe { f with heap:=f.heap.push { cls:=.type "slice",data:=.fields #[W,vu,Z] } };refine tail_any (ops:=[.ref a,.ref f.heap.objs.size]) ht.isList.typeIs slot_list_getitem.lookup ?_ (by with_unfolding_all rfl);have V:=rv.length;refine wpAny_getItem_list_slice ht.isList (Heap.IsSliceOf.new ..) pl pu ps (λz=>hc0 (Option.some.inj z)) ?_ (by rw[List.size_toArray];lia);have hp:R (f.heap.push { cls:=.type "slice",data:=.fields #[W,vu,Z] }).objs.size=none:=I5.hok.fresh (Nat.le_refl _);have hv:aK (jM xs K P (some c)) (slicePick t.toArray K P (some c)).toList:=by
     unfold jM slicePick;rw[V];simpa using pi rv _
    have hsz:(jM xs K P (some c)).length≤sizeLine:=by
     rw[hv.length];have:=slicePick_size_le t.toArray K P (some c)
     have e0:t.toArray.size=t.length:=List.size_toArray ..;have e:(slicePick t.toArray K P (some c)).toList.length=(slicePick t.toArray K P (some c)).size:=li;lia
    refine⟨.ref (f.heap.push { cls:=.type "slice",data:=.fields #[W,vu,Z] }).objs.size,_,I5.laid (t':=f.toks) (o:=.lst (jM xs K P (some c))) (λb ob q=>Heap.get?_push_of_some _ q) (Nat.le_refl _) ⟨hsz,_,0,hv,?_⟩,rfl,k _ _ T _ (ss.trans (bQ hp).stp) (r4.grow (bQ hp)) (.newLst hp ?_)⟩
    .have:=Heap.get?_push_size (o:={ cls:=.type "list",data:=.seq (slicePick t.toArray K P (some c)) }) (f.heap.push { cls:=.type "slice",data:=.fields #[W,vu,Z] }) rfl;simpa using this
    .unfold jM;rw[ra.length];exact tp ra _
 |_=>cases q
end
theorem t5(f:Nat->β->Sem (ForInStep β))(I:Nat->β->Shared->Prop)(Q:β->Shared->Prop)(k:Nat)
  (turn:∀i b s,i < k->I i b s->wpAny M A (f i b) (λr s'=>match r with | .yield b'=>I (i+1) b' s' | .done b'=>Q b' s') E s)
  (fin:∀b s,I k b s->Q b s) (b:β) (h:I 0 b s):wpAny M A (forIn [0:k] b f) Q E s:=by
 rw[Std.Legacy.Range.forIn_eq_forIn_range'];refine wpAny_forIn_list f (λck b s=>∃i,ck=List.range' i (k-i)/\i≤k/\I i b s) Q (λx ck b s ⟨i,e,hi,hI⟩=>?_) (λb s ⟨i,e,hi,hI⟩=>?_) _ b ⟨0,by simp[Std.Legacy.Range.size],Nat.zero_le _,h⟩
 .obtain⟨m,hm⟩:∃m,k-i=m+1:=by
   cases q:k-i with
   |zero=>rw[q]at e;simp at e
   |succ m=>exact⟨m,rfl⟩
  rw[hm,qy]at e;injection e with e1 e2;subst e1;refine wpAny_mono (turn x b s (by lia) hI) (λr s' hr=>?_) λ_ _ z=>z;cases r with
  |done b'=>exact hr
  |yield b'=>exact⟨x+1,by rw[e2];congr 1;lia,by lia,hr⟩
 .have:k-i=0:=by
   cases q:k-i with
   |zero=>rfl
   |succ m=>rw[q,qy]at e;cases e
  have:i=k:=by lia
  subst this;exact fin b s hI
section
open PySem.SeqAt PySem.MeetsSeq
open PySem.AutoSeq1 (wpAny_loadPart')
set_option tactic.hygienic true in
theorem xh(l:Addr)(items:Array Value)(n:Nat)(dd:Option Addr)(sl:Array (OV))(x:Value)(e:Value->Bool)(j:Nat)(hj:j < items.size)
  (hit:e items[j]=true) (hno:∀m (hm:m < items.size),m < j->e items[m]=false) :
  Meets (Builtin.«tuple.index» ⟨[.ref l,x],[]⟩)
   (λA R s=>s.heap.get? l=some { cls:=.type "tuple",dict:=dd,data:=.seq items n,slots:=sl }/\(∀y,y ∈ items->EqAt A.in1 s y x (e y))/\R (.ok (.ret (.int j s.toks))) { s with toks:=s.toks+1 }):=
 .of_wp λprog w A R s h=>by
  obtain⟨hp,g,d,tk,os⟩:=s;obtain⟨hl,he,h⟩:=h
  wp_walk using j3 hl,t5 _ (λi b s'=>i≤j/\b.1=none/\s'=⟨hp,g,d,tk,os⟩) _
  case turn=>
   rintro i b s' hi ⟨hij,hb,rfl⟩;have hi':i < items.size:=by lia
   rw[Array.getElem?_eq_getElem hi'];refine wpAny_bind (he _ (Array.getElem_mem hi') prog w _ _ ?_);by_cases hc:i=j
   .subst hc;rw[hit]
    wp_walk
    exact⟨_,rfl,h⟩
   .rw [hno i hi' (by lia)]
    wp_walk
    exact⟨by lia,rfl,rfl⟩
  case fin=>rintro b s' ⟨hij,_,_⟩;exact absurd hij (by lia)
  case h=>exact⟨Nat.zero_le _,rfl,rfl⟩
end
def i0(ps:List P)(y:P):Option Nat:=if (ps.all (cb 19) && cb 19 y)=true then (i5 ps).findIdx? λz=>PyData.eqv z (pd y) else none
def oK(Y fb:EV):EV:=λL S=>aG (Y L S) λv x=>match v with
 | .lst ps=>aG (fb L x) λy h=>(i0 ps y).map λ(i:Nat)=>(.int (i:Int),h)
 | .tup ps=>aG (fb L x) λy h=>(i0 ps y).map λ(i:Nat)=>(.int (i:Int),h)
 |_=>none
section
variable{X:Cx}{pins:PN}{σ:L2.St}{H:Hp}{s:Shared}{F:Aa}{ps:List P}{y:P}{vy:V}{u:Value}{i:Nat}{Q:VK}{a:Addr}
theorem q0:∀qs:List P,(i5 qs).length=qs.length
 | []=>rfl
 |q::qs=>by simp[i5,q0 qs]
set_option tactic.hygienic true in
theorem zY(o:X.A.units+64 < cLine)(I:Inv X pins σ H s)(d:RP X.K F H y vy)(g:RelV vy u)(e:i0 ps y=some i){v:Array Value}{f:List Addr}(k:ReadsAll s.heap v.toList (i5 ps) f) :
  ∃t:i < v.size,PyData.eqv (SeqAt.readOf s.heap v[i]) (pd y)=true/\(∀m (x:m < v.size),m < i->PyData.eqv (SeqAt.readOf s.heap v[m]) (pd y)=false)/\v.size=ps.length /\
   ∀z,z ∈ v->SeqAt.EqAt X.A.in1 s z u (PyData.eqv (SeqAt.readOf s.heap z) (pd y)):=by
 unfold i0 at e;split at e;case isFalse=>cases e
 rename_i c;rw[Bool.and_eq_true]at c;obtain⟨j,w⟩:=ib I 19 d g c.2;have l:=zx c.1;have q:=eI 19 _ c.2;obtain⟨t,b,r⟩:=vT.mp e;have n:=SeqAt.readsAll_map _ _ _ l.1 k;have h:v.size=(i5 ps).length:=by rw[<- n];simp
 have a:∀(m:Nat)(x:m < v.size),SeqAt.readOf s.heap v[m]=(i5 ps)[m]'(h ▸ x):=λm x=>by
  have:(v.toList.map (SeqAt.readOf s.heap))[m]? = (i5 ps)[m]?:=by rw[n]
  rw[List.getElem?_map,Array.getElem?_toList,Array.getElem?_eq_getElem x,cK (h ▸ x)]at this;simpa using this
 refine⟨by lia,?_,λm x p=>?_,by rw[h,q0],SeqAt.items_eqAt k w l.1 q.1 (by lia)⟩
 .rw [a];exact b
 .rw [a];simpa using r m p
set_option tactic.hygienic true in
theorem zX(e:i0 ps y=some i):ps.all (cb 19)=true:=by
 unfold i0 at e;split at e
 .rename_i h;rw[Bool.and_eq_true]at h;exact h.1
 .cases e
theorem vN(P:X.A.units+64 < cLine)(I:Inv X pins σ H s)(p:RP X.K F H (.lst ps) (.ref a))(D:RP X.K F H y vy)(G:RelV vy u)(e:i0 ps y=some i)(q:Q (.int i) H) :
  wpAny (model X.prog X.w) X.A (call (.builtin "list.index") [.ref a,u]) (EP X pins σ Q) X.xe s:=by
 have S:=zX e;obtain⟨M,b⟩:=ib I 20 p (show RelV (.ref a) (.ref a) from rfl) (by simpa[cb] using S);rw[pd]at b;cases b with
 | @list l o J n _ c x k f w=>
  obtain⟨j,t,v,R,d⟩:=zY P I D G e w;obtain⟨V,B,C,h⟩:=o;dsimp only at k f;subst k f;have O:ps.length≤sizeLine:=by obtain⟨L,W,m,K,E⟩:=p;cases m;obtain⟨z,A,U,r,N,_⟩:=I.lstM K.2;have T:=E.length;lia
  have g:sizeLine < 2 ^ 63:=by decide
  exact call_meets PySem.F.slot_list_index ⟨_,x,rfl⟩ PySem.F.entry_list_index (PySem.F.args_list_index_2 _ _) (SeqAt.list_indexAt a J n B h u _ i j (by lia) t v) ⟨x,d,⟨.int i,H,I.tok _,⟨_,rfl⟩,q⟩⟩
theorem uF(hu:X.A.units+64 < cLine)(I:Inv X pins σ H s)(px:RP X.K F H (.tup ps) (.ref a))(py:RP X.K F H y vy)(ru:RelV vy u)(e:i0 ps y=some i)(q:Q (.int i) H) :
  wpAny (model X.prog X.w) X.A (call (.builtin "tuple.index") [.ref a,u]) (EP X pins σ Q) X.xe s:=by
 have ho:=zX e;obtain⟨as,ra⟩:=ib I 20 px (show RelV (.ref a) (.ref a) from rfl) (by simpa[cb] using ho);rw[pd]at ra;cases ra with
 | @tuple l o vs n _ as' h1 h2 h3 h4=>obtain⟨hi,e1,e2,hz,eq⟩:=zY hu I py ru e h4;obtain⟨oc,od,odt,osl⟩:=o;dsimp only at h2 h3;subst h2 h3;exact call_meets PySem.F.slot_tuple_index ⟨_,h1,rfl⟩ PySem.F.entry_tuple_index (PySem.F.args_tuple_index_2 _ _) (xh a vs n od osl u _ i hi e1 e2) ⟨h1,eq,⟨.int i,H,I.tok _,⟨_,rfl⟩,q⟩⟩
theorem Do(hu:X.A.units+64 < cLine)(ho:PE X o (tV X.K T))(he:PE X e (tV X.K fe))(hs:starEach [e] X.env=[(false,eval e X.env)])
  (w:attributeBase o "index" X.env (eval o X.env)=eval o X.env) (j:(M.endLine == g.line)=true):PE X (.Call (.Attribute o "index" M) [e] [] g) (tV X.K (oK T fe)):=by
 intro pins s σ H Q I ⟨F,m,L,S,d,Z,r,l,q,k⟩;obtain⟨x,U,e1,q⟩:=ai q;refine wpAny_Call_method_late w (by rw[hs];rfl) j rfl (cG (ho pins s σ H (λv c=>∃f K,Stp F m H f K c/\Rel X.K f c K U/\RP X.K f c x v) I ⟨F,m,L,S,x,U,r,l,e1,λv f K c W r1 B=>⟨f,K,W,r1,B⟩⟩) λu W hz=>?_);obtain⟨v,c,Y,ru,f,K,O,r1,B⟩:=hz;have t:∀(id:String)(ps:List P),aG (fe L U) (λy S2=>(i0 ps y).map λ(i:Nat)=>((.int (i:Int):P),S2))=some (d,Z) ->
   (∀(s:Shared)(h:Hp)(n:Aa)(y:P)(vy:V)(C:Value)(i:Nat),Inv X pins σ h s->(∀p,RP X.K f c p v->RP X.K n h p v)->RP X.K n h y vy->RelV vy C->i0 ps y=some i->Q (.int i) h->wpAny (model X.prog X.w) X.A (call (.builtin id) [u,C]) (EP X pins σ Q) X.xe s) ->
   wpAny (model X.prog X.w) X.A (callWith g (.builtin id) [u] (backTo g (starEach [e] X.env)) []) (EP X pins σ Q) X.xe W:=by
  intro id ps q hc;obtain⟨y,S2,e2,q⟩:=ai q;obtain⟨i,E,q⟩:=j_.mp q;cases q;rw[hs];refine Calls.callWith_builtin rfl (Calls.evalArgs_plain (Calls.spliced_cons (cG (he pins W σ c (λvy h=>∃n A,Stp f K c n A h/\Rel X.K n h A Z/\RP X.K n h y vy) Y ⟨f,K,L,U,y,Z,r1,l.mono O,e2,λv n A h s2 r2 G=>⟨n,A,s2,r2,G⟩⟩) λC s2 ⟨vy,h,D,ruy,n,A,R,r2,G⟩=>j4 ?_)));exact hc s2 h n y vy C i D (λp N=>RP.mono R N) G ruy E (k _ n A h (O.trans R) r2 rfl)
 cases x with
 |lst ps=>obtain⟨a,xs,rfl,hq,rp⟩:=id B;cases (show u=Value.ref a from ru);obtain⟨z,its,n',rr,hl,J⟩:=Y.lstM hq.2;exact⟨"list","list.index",uS,PySem.F.slot_list_index,PySem.F.type_list_index,⟨_,J,rfl⟩,λb eb=>by cases eb;exact⟨_,J,rfl⟩,t _ ps q λs h n y vy C i D N py ry E q=>vN hu D (N _ B) py ry E q⟩
 |tup ps=>obtain⟨a,xs,rfl,hq,rp⟩:=id B;cases (show u=Value.ref a from ru);obtain⟨its,rr,o,J,⟨ec,n',ed⟩,en⟩:=Y.tupleN hq.sq;exact⟨"tuple","tuple.index",PySem.F.plainAttrs_tuple,PySem.F.slot_tuple_index,PySem.F.type_tuple_index,⟨_,J,ec⟩,λb eb=>by cases eb;exact⟨_,J,en⟩,t _ ps q λs h n y vy C i D N py ry E q=>uF hu D (N _ B) py ry E q⟩
 |_=>cases q
end
noncomputable def bR[DecidableEq L](k:L):List L->List D->Option D
 |h::s,v::x=>if h=k then some v else bR k s x
 |_,_=>none
noncomputable def cM[DecidableEq L](k:L)(v:D):List L->List D->List L×List D
 |h::s,w::x=>if h=k then (h::s,v::x) else (h::(cM k v s x).1,w::(cM k v s x).2)
 |_,_=>([k],[v])
def cn:List P->Option (List bB)
 | []=>some []
 |p::r=>(b8 p).bind λk=>(cn r).map λs=>k::s
noncomputable def iG(d:D)(S:aD):Option (Nat×List (List bB)×List D):=match d with
 | .ref i=>match S[i]? with
  |some (.dtt k v)=>some (i,k,v)
  |_=>none
 |_=>none
set_option tactic.hygienic true in
theorem mY(h:iG d S=some (i,k,n)):d=.ref i/\S[i]? = some (.dtt k n):=by
 unfold iG at h;split at h
 .split at h
  .rename_i e;cases h;exact⟨rfl,e⟩
  .cases h
 .cases h
section
variable{K:FG}{F:Aa}{H:Hp}{m:List Addr}
theorem ie:∀{ps:List P}{s:List bB}{a:List V},cn ps=some s->ci K F H ps a->a=s.map kV
 | [],s,a,h,r=>by cases h;exact r
 |p::ps,s,a,h,r=>by
  obtain⟨x,m,rfl,b,c⟩:=r;unfold cn at h;cases e:b8 p with
  |none=>rw[e]at h;cases h
  |some k=>
   rw[e]at h;cases n:cn ps with
   |none=>rw[n]at h;cases h
   |some f=>rw[n]at h;cases h;rw[List.map_cons,fS e b,ie n c]
theorem iC[DecidableEq L]:∀{C:List (L×V)}{s:List D},dm K F H m s (C.map (·.2)) ->
  match bR k (C.map (·.1)) s with|some d=>∃v,fR C k=some v/\RD K F H m d v|none=>fR C k=none
 | [],s,r=>by have:s=[]:=j' r.length;subst this;rfl
 |(a,v)::C,[],r=>by have:=r.length;simp at this
 |(a,v)::C,d::s,r=>by
  obtain⟨x,c,e,p,n⟩:=r;rw[List.map_cons]at e;injection e with f b;rw[<- b]at n;simp only[List.map_cons,bR];by_cases h:a=k
  .rw [if_pos h];exact⟨v,gF (p:=(a,v)) h,by rw[show v=x from f];exact p⟩
  .rw [if_neg h,fQ (p:=(a,v)) h];exact iC n
theorem lw[DecidableEq L](b:RD K F H m y u):∀{C:List (L×V)}{s:List D},(C.map (·.1)).Nodup->dm K F H m s (C.map (·.2)) ->
  (L2.putK C k u).map (·.1)=(cM k y (C.map (·.1)) s).1/\dm K F H m (cM k y (C.map (·.1)) s).2 ((L2.putK C k u).map (·.2))
 | [],s,_,r=>by have:s=[]:=j' r.length;subst this;exact⟨rfl,u,[],rfl,b,rfl⟩
 |(h,w)::C,[],_,r=>by have:=r.length;simp at this
 |(h,w)::C,d::s,g,r=>by
  obtain⟨x,E,e,B,G⟩:=r;rw[List.map_cons]at e g;injection e with i j;subst i;subst j;obtain⟨t,p⟩:=List.nodup_cons.mp g;simp only[List.map_cons,cM];by_cases a:h=k
  .subst a;rw[if_pos rfl];have same:∀l:List (L×V),h ∉ l.map (·.1)->l.map (λv=>if v.1=h then (v.1,u) else v)=l:=by
    intro l;induction l with
    |nil=>intro _;rfl
    |cons q l A=>
     intro f;rw[List.map_cons]at f;have o:¬q.1=h:=λz=>f (by rw[<- z];exact List.mem_cons_self)
     rw[List.map_cons,if_neg o,A λz=>f (aS _ z)]
   have n:L2.putK ((h,w)::C) h u=(h,u)::C:=by unfold L2.putK;rw[if_pos (by simp),List.map_cons,if_pos rfl,same C t]
   rw[n];exact⟨rfl,u,_,rfl,b,G⟩
  .rw [if_neg a];obtain⟨S,P⟩:=lw (k:=k) b p G;have n:L2.putK ((h,w)::C) k u=(h,w)::L2.putK C k u:=by
    unfold L2.putK;rw[gC,br (show ¬(h,w).1=k from a),Bool.false_or];by_cases c:(C.any λv=>decide (v.1=k))=true
    .rw [if_pos c,if_pos c,List.map_cons,if_neg (show ¬(h,w).1=k from a)]
    .rw [if_neg c,if_neg c];rfl
   rw[n,List.map_cons,List.map_cons,S];exact⟨rfl,w,_,rfl,B,P⟩
end
section
variable{X:Cx}{O G:Pos}{o c:Expr}{N:Ab}{T:EE}{v:gf}{fv:EV}
noncomputable def rX:EE:=λ_ S=>some (.ref S.length,S++[.dtt [] []])
theorem Dq:PE X (.Dict [] [] O) (tE X.K rX):=zg.imp' λσ H Q z=>by obtain⟨F,m,L,S,d,x,r,l,q,k⟩:=z;cases q;intro p h;refine k (.ref p) F (m++[p]) _ (gh h) (r.own h ⟨[],aJ,rfl,rfl⟩) ⟨p,rfl,?_⟩;rw[<- r.len,fB (Nat.le_refl _)];simp
def vD(o:EE)(k:gf):EE:=λL S=>aG (o L S) λd x=>aG (k L x) λps h=>match iG d h,cn ps with
 |some (_,s,v),some B=>if few ps=true then (bR B s v).map λz=>(z,h) else none
 |_,_=>none
theorem B1(m:X.A.units+1 < cLine):AL X (λx y H Q=>∃a v,x=.ref a/\hZ H a y (some v)/\(∃C,H a=some (.dT C))/\Q v H):=by intro c l pins s σ H x y v u Q I t p h b;obtain⟨a,w,rfl,g,⟨C,f⟩,q⟩:=h;cases t;obtain⟨_,_,_,_,o,_,_,e,k,_⟩:=I.hok a _ f;exact tail_any ⟨o,e,k.1⟩ slot_dict_getitem.lookup (pU m I g p λi d n r=>⟨w,H,n,r,q⟩) b
set_option tactic.hygienic true in
theorem JP {J} (hu:X.A.units+1 < cLine) (ho:PE X o (tE X.K T)) (hk:PA X N (oN X.K v)) (hs:k7 (.Tuple N J G)):PE X (.Subscript o (.Tuple N J G) O) (tE X.K (vD T v)):=
 (ze (B1 hu) ho (qY hk) hs).imp' λσ H Q hz=>by
  obtain⟨F,m,L,S,d,S',r,l,q,k⟩:=hz;obtain⟨x,K,W,q⟩:=ai q;obtain⟨ps,P,Y,q⟩:=ai q;refine⟨F,m,L,S,x,K,r,l,W,λh U m1 H1 I r1 p1=>?_⟩;refine⟨U,m1,L,K,ps,P,r1,l.mono I,Y,λR y m2 V M E G=>?_⟩;cases n:iG x P with
  |none=>rw[n]at q;cases q
  |some t=>
   obtain⟨j,ks,vs⟩:=t;rw[n]at q;cases s:cn ps with
   |none=>rw[s]at q;cases q
   |some B=>
    rw[s]at q;dsimp only at q;split at q
    .rename_i hf;obtain⟨z,Z,q⟩:=j_.mp q;cases q;obtain⟨rfl,f⟩:=mY n;obtain⟨a,rfl,hm⟩:=RD.mono M p1;obtain⟨C,c,u,rs⟩:=E.obj j a _ hm f;subst u;have A:=iC (k:=B) rs;rw[Z]at A;obtain⟨w,ev,i⟩:=A;refine⟨by rw[<- G.length];exact kh hf,λb D=>?_⟩;have p:a≠b:=λz=>by rw[z,D]at c;cases c
     have e:cg V b (.tup R) a=some (.dT C):=by rw[av p];exact c
     have g:=b9 (F:=y) (o:=.tup R) D;rw[ie s G]at e g ⊢;refine⟨a,w,rfl,by rw[<- ev];exact hZ.t e aJ,⟨C,e⟩,?_⟩;exact k w y m2 _ (I.trans (M.trans g.stp)) (E.grow g) (RD.mono g.stp i)
    .cases q
def uf(o:EE)(k:gf):EE:=λL S=>aG (o L S) λd h=>match iG d h with
 |none=>none
 |some _=>aG (k L h) λps x=>match iG d x,cn ps with
  |some (_,s,v),some B=>if few ps=true then some ((bR B s v).getD (.p .non),x) else none
  |_,_=>none
set_option tactic.hygienic true in
theorem Ga {J} (hu:X.A.units+1 < cLine) (ho:PE X o (tE X.K T)) (hk:PA X N (oN X.K v)) (I:M1 X o "get" ap (.Tuple N J G) cp) :
  PE X (.Call (.Attribute o "get" ap) [.Tuple N J G] [] cp) (tE X.K (uf T v)):=
 (zj hu ho (qY hk) I).imp' λσ H Q hz=>by
  obtain⟨F,m,L,S,d,S',r,l,q,k⟩:=hz;obtain⟨x,p,e1,q⟩:=ai q;refine⟨F,m,L,S,x,p,r,l,e1,λh F1 m1 H1 U r1 p1=>?_⟩;cases e:iG x p with
  |none=>rw[e]at q;cases q
  |some t1=>
   obtain⟨j,ks1,vs1⟩:=t1;rw[e]at q;dsimp only at q;obtain⟨ps,W,e2,q⟩:=ai q;obtain⟨rfl,y⟩:=mY e;obtain⟨a,rfl,hm⟩:=id p1;obtain⟨s,A,_,_⟩:=r1.obj j a _ hm y;refine⟨a,rfl,.inr ⟨s,.inl A⟩,?_⟩;refine⟨F1,m1,L,p,ps,W,r1,l.mono U,e2,λus c m2 H2 V O G=>?_⟩;cases i:iG (.ref j) W with
   |none=>rw[i]at q;cases q
   |some t=>
    obtain⟨j2,ks,vs⟩:=t;rw[i]at q;cases u:cn ps with
    |none=>rw[u]at q;cases q
    |some B=>
     rw[u]at q;dsimp only at q;split at q
     .rename_i hf;cases q;obtain⟨n,K⟩:=mY i;cases n;obtain⟨a',e4,M⟩:=RD.mono V p1;cases e4;obtain⟨C,P,E,rs⟩:=O.obj j a _ M K;subst E;have f:=iC (k:=B) rs;refine⟨by rw[<- G.length];exact kh hf,λb Z=>?_⟩;have D:a≠b:=λz=>by rw[z,Z]at P;cases P
      have n:cg H2 b (.tup us) a=some (.dT C):=by rw[av D];exact P
      have g:=b9 (F:=c) (o:=.tup us) Z;rw[ie u G]at n g ⊢;refine⟨fR C B,hZ.t n aJ,?_⟩;cases Y:bR B (C.map (·.1)) vs with
      |none=>rw[Y]at f k;rw[show fR C B=none from f];exact k .non c m2 _ (U.trans (V.trans g.stp)) (O.grow g) rfl
      |some z=>rw[Y]at f k;obtain⟨w,ev,R⟩:=f;rw[ev];exact k w c m2 _ (U.trans (V.trans g.stp)) (O.grow g) (RD.mono g.stp R)
     .cases q
def wg(o:EE)(k:gf)(v:EV):ES:=λL S=>aG (v L S) λy a=>aG (o L a) λd e=>aG (k L e) λps h=>match iG d h,cn ps with
 |some (i,s,x),some B=>if (s.Nodup/\few s=true/\few ps=true) then some (.nx,L,h.set i (.dtt (cM B (.p y) s x).1 (cM B (.p y) s x).2)) else none
 |_,_=>none
set_option tactic.hygienic true in
theorem FT {J} (hu:X.A.units+1 < cLine) (ho:PE X o (tE X.K T)) (i:PA X N (oN X.K v)) (hv:PE X c (tV X.K fv)) (hs:swapsWith c (some (.Subscript o (.Tuple N J G) n)) O.line X.env=pure false) :
  PS X (.Assign [.Subscript o (.Tuple N J G) n] c O) (kx X.K (wg T v fv)):=(wn hu ho (qY i) hv hs).imp' λD σ H hz=>by
 obtain⟨F,m,L,S,fl,L',S',r,l,q,k⟩:=hz;obtain⟨y,I,e1,q⟩:=ai q;obtain⟨d,M,e2,q⟩:=ai q;obtain⟨ps,Q,e3,q⟩:=ai q;refine⟨F,m,L,S,y,I,r,l,e1,λh A W H1 s r1 p1=>?_⟩;refine⟨A,W,L,I,d,M,r1,l.mono s,e2,λx F2 m2 H2 e r2 G=>?_⟩;refine⟨F2,m2,L,M,ps,Q,r2,(l.mono s).mono e,e3,λus E Y H3 f r3 p3=>?_⟩;cases u:iG d Q with
 |none=>rw[u]at q;cases q
 |some t=>
  obtain⟨j,ks,vs⟩:=t;rw[u]at q;cases w:cn ps with
  |none=>rw[w]at q;cases q
  |some B=>
   rw[w]at q;dsimp only at q;split at q
   .rename_i g;cases q;obtain⟨rfl,N⟩:=mY u;refine⟨by rw[<- p3.length];exact kh g.2.2,λb hb=>?_⟩;have R:=b9 (F:=E) (o:=.tup us) hb;have P:=r3.grow R;have p:=R.stp (m:=Y);obtain⟨a,rfl,K⟩:=RD.mono p (RD.mono f G);obtain⟨C,V,i,rs⟩:=P.obj j a _ K N;subst i;have pv:=RD.mono p (RD.mono f (RD.mono e (show RD X.K A H1 W (.p y) h from p1)));obtain⟨h1,h2⟩:=lw (k:=B) pv g.1 rs;have Z:∀zs,cg H3 b (.tup us) a≠some (.tup zs):=λzs z=>by rw[V]at z;cases z
    have st:=fM (o:=.dT (L2.putK C B h)) P K N trivial Z;have hl:C.length < sizeLine:=by have U:(C.map (·.1)).length≤1000000:=of_decide_eq_true g.2.1;rw[a9]at U;exact lh U (by decide)
    refine⟨a,_,rfl,uL.t (k:=B) V ?_ hl,?_⟩
    .rw [ie w p3];exact aJ
    .exact k σ E Y _ (s.trans (e.trans (f.trans (p.trans st)))) (P.set K N trivial Z ⟨_,aJ,h1,dm.mono st h2⟩) ((((l.mono s).mono e).mono f).mono (p.trans st))
   .cases q
end
section
variable{X:Cx}{pins:PN}{σ:L2.St}{H:Hp}{s:Shared}{a:Addr}{C:List (bB×V)}{B:bB}{u r:Value}{x:V}{A:Around}{E:VP}
theorem Ar(I:Inv X pins σ H s)(e:H a=some (.dK C))(K:C.length < sizeLine)(S:RelV (kV B) u)(o:RelV x r)
  (t:∀v w n,fR C B=some v->RelV v w->Inv X pins σ H n->Q w n) (p:fR C B=none->∀n,Inv X pins σ (cg H a (.dK (L2.putK C B x))) n->Q r n) :
  wpAny (model X.prog X.w) A (call (.builtin "dict.setdefault") [.ref a,u,r]) Q E s:=by
 obtain⟨z,hd,F,l,k⟩:=wO I.hok e;have h:=l.val B;refine ky PySem.F.slot_dict_setdefault k.typeIs PySem.F.entry_dict_setdefault (PySem.F.args_dict_setdefault_3 _ _ _) (kt_meets_setdefault (bJ X.prog X.w) a (kL S) hd r)
  ⟨F,k,by rw[<- l.length];exact z,λv f=>?_,λc m d j=>?_⟩
 .cases q:fR C B with
  |none=>rw[q,f]at h;cases h
  |some b=>rw[q,f]at h;exact t b v _ q h (I.tok _)
 .have q:fR C B=none:=by
   cases q:fR C B with
   |none=>rfl
   |some b=>rw[q,c]at h;cases h
  refine p q _ ?_;have g:∃q,m.get? a=some q:=let ⟨q,_,_,i,_⟩:=d;⟨q,i⟩
  have y:(L2.putK C B x).length≤sizeLine:=by have:=jc C B x;lia
  exact se I (by rw[e];exact True.intro) j g (Ao y hd (l.put B o) d)
end
section
variable{X:Cx}{o e f:Expr}{ap cp:Pos}{T fd:EE}{fk:EV}
def m_(o:EE)(k:EV)(d:EE):EE:=λL S=>aG (o L S) λx a=>match jF x a with
 |none=>none
 |some _=>aG (k L a) λz e=>aG (d L e) λy h=>match jF x h,b8 z with
  |some (i,s,v),some B=>if (s.Nodup/\few s=true) then match bR B s v with
    |some w=>some (w,h)
    |none=>some (y,h.set i (.dct (cM B y s v).1 (cM B y s v).2))
   else none
  |_,_=>none
set_option tactic.hygienic true in
theorem AV(ho:PE X o (tE X.K T))(he:PE X e (tV X.K fk))(hf:PE X f (tE X.K fd))(n:M2 X o "setdefault" ap e f cp):PE X (.Call (.Attribute o "setdefault" ap) [e,f] [] cp) (tE X.K (m_ T fk fd)):=by
 intro pins s σ H Q I ⟨F,m,L,S,d,S',r,l,q,k⟩;obtain⟨x,S1,e1,q⟩:=ai q;refine wpAny_Call_method n.base n.few n.line uR PySem.F.slot_dict_setdefault PySem.F.type_dict_setdefault
  (cG (ho pins s σ H (λv P=>∃b i,Stp F m H b i P/\Rel X.K b P i S1/\RD X.K b P i x v) I ⟨F,m,L,S,x,S1,r,l,e1,λv b i P s1 r1 p1=>⟨b,i,s1,r1,p1⟩⟩) λu s1 ⟨v,P,I1,ru,b,i,N,r1,p1⟩=>?_)
 cases D:jF x S1 with
 |none=>rw[D]at q;cases q
 |some t1=>
  obtain⟨j,ks1,vs1⟩:=t1;rw [D] at q;dsimp only at q;obtain⟨z,S2,e2,q⟩:=ai q;obtain⟨y,S3,e3,q⟩:=ai q;obtain⟨rfl,es1⟩:=q_ D;obtain⟨a,rfl,hm⟩:=id p1;obtain⟨Y,hH1,_,_⟩:=r1.obj j a _ hm es1;cases (show u=Value.ref a from ru);obtain⟨t1,t2,_⟩:=vk I1 (.inl ⟨Y,.inl hH1⟩);refine⟨t1,t2,?_⟩;rw [n.trees];refine Calls.callWith_builtin rfl (Calls.evalArgs_plain (Calls.spliced_cons (cG (he pins s1 σ P (fun vz A=>∃c M,Stp b i P c M A/\Rel X.K c A M S2/\RP X.K c A z vz) I1 ⟨b,i,L,S1,z,S2,r1,l.mono N,e2,fun v c M A s2 r2 G=>⟨c,M,s2,r2,G⟩⟩) fun uz s2 ⟨vz,A,I2,rz,c,M,O,r2,G⟩=>
   Calls.spliced_cons (cG (hf pins s2 σ A (λvy g=>∃p K,Stp c M A p K g/\Rel X.K p g K S3/\RD X.K p g K y vy) I2 ⟨c,M,L,S2,y,S3,r2,(l.mono N).mono O,e3,λv p K g s3 U p3=>⟨p,K,s3,U,p3⟩⟩) λuy s3 ⟨vy,g,I3,ry,p,K,oH,U,p3⟩=>j4 ?_))))
  cases eo:jF (.ref j) S3 with
  |none=>rw[eo]at q;cases q
  |some t=>
   obtain⟨j2,ks,vs⟩:=t;rw[eo]at q;cases ek:b8 z with
   |none=>rw[ek]at q;cases q
   |some B=>
    rw[ek]at q;dsimp only at q;split at q
    .rename_i hc;obtain⟨e4,E⟩:=q_ eo;cases e4;obtain⟨a',e5,J⟩:=RD.mono (O.trans oH) p1;cases e5;obtain⟨C,hH,hk,rs⟩:=U.obj j a _ J E;subst hk;have R:=iC (k:=B) rs;have pz:=RP.mono oH G;have ez:=fS ek pz;subst ez;have hl:C.length < sizeLine:=by
      have h9:(C.map (·.1)).length≤1000000:=of_decide_eq_true hc.2;rw[a9]at h9;exact lh h9 (by decide)
     have Z:=N.trans (O.trans oH);refine Ar I3 hH hl rz ry (λv w s' W rv I'=>?_) λW s' I'=>?_
     .cases V:bR B (C.map (·.1)) vs with
      |none=>rw[V]at R;rw[show fR C B=none from R]at W;cases W
      |some w'=>rw[V]at R q;dsimp only at q;cases q;obtain⟨v',h,rd⟩:=R;rw[W]at h;cases h;exact⟨v,g,I',rv,k v p K g Z U rd⟩
     .cases V:bR B (C.map (·.1)) vs with
      |some w'=>rw[V]at R;obtain⟨v',h,_⟩:=R;rw[W]at h;cases h
      |none=>
       rw[V]at q;dsimp only at q;cases q;obtain⟨h1,h2⟩:=lw (k:=B) p3 hc.1 rs;have nt:∀zs,g a≠some (.tup zs):=λzs z=>by rw[hH]at z;cases z
       have st:=fM (o:=.dK (L2.putK C B vy)) U J E trivial nt;exact⟨vy,_,I',ry,k vy p K _ (Z.trans st) (U.set J E trivial nt ⟨_,aJ,h1,dm.mono st h2⟩) (RD.mono st p3)⟩
    .cases q
end
end Ev
namespace PySem
open PySem PyProof.Rows
section
variable{prog:Program}{w:World}{A:Around}{E:VP}{s:Shared}
theorem s_(t:s.heap.IsTupleIter k h i)(f:s.heap.IsTuple h n)(b:n[i]? = some x)
  (e:∀a,a.IsTupleIter k h (i+1)->Heap.SameBut k s.heap a->Q x { s with heap:=a }):wpAny (model prog w) A (Builtin.SmallTypes.nextOf (.ref k)) Q E s:=by
 have T:=t.typeIs;obtain⟨⟨q,v,m,r⟩,o,c,hd⟩:=id t;obtain⟨u,l,_,p,d⟩:=f;dsimp only at c hd;subst c hd;unfold Builtin.SmallTypes.nextOf;apply wpAny_bind;apply wpAny_callSpecial?_slot (name:=Str.ofString "__next__") T F.slot_tuple_iterator_next;refine wpAny_call_entry F.slot_tuple_iterator_next T F.entry_tuple_iterator_next ?_ (F.args_tuple_iterator_next_1 _);repeat first|with_reducible refine wpAny_bind (wpAny_field o rfl (x:=.ref h) rfl ?_)|wp_step
 rw[d];apply wpAny_pure;simp only[Int.toNat_natCast,b];apply wpAny_bind;apply wpAny_setField o rfl (by simp);refine wpAny_pure ⟨x,rfl,wpAny_pure (e _ ⟨_,qC _ o rfl,rfl,?_⟩ (qe ..))⟩;simp[Obj.mapFields,rawInt]
def fW(h:Heap)(z TI TO:Addr)(f x:Value):Prop:=h.get? z=some { cls:=.type "zip",data:=.fields #[f,x,.bool false,.ref TI,.ref TO] }
def eS(h:Heap)(T:Addr)(a b:Value):Prop:=h.get? T=some { cls:=.type "tuple",data:=.seq #[a,b] }
theorem yj (l y:Addr) (X Y:Array Value):Meets (Builtin.«zip.__new__» ⟨[.type "zip",.ref l,.ref y],[]⟩) (fun _ R s=>s.heap.IsList l X/\s.heap.IsTuple y Y /\
  ∀v S F TI TO z,(∀b o,s.heap.get? b=some o->v.get? b=some o)->s.heap.objs.size≤S->S < F->F < TI->TI < TO->TO < z->v.IsListIter S l 0->v.IsTupleIter F y 0->eS v TI (.ref S) (.ref F)->eS v TO .none .none ->
   fW v z TI TO .none (.bool false)->R (.ok (.ret (.ref z))) { s with heap:=v }):=
 .of_wp λprog w A R s h=>by
  obtain⟨i,g,d,V,os⟩:=s;obtain⟨B,C,h⟩:=h;have U:=sub_zip;have L:Heap.IsList (Shared.heap ⟨i,g,d,V,os⟩) l X:=B;have P:Heap.IsTuple (Shared.heap ⟨i.push { cls:=.type "list_iterator",data:=.fields #[.ref l,.int 0 0] },g,d,V,os⟩) y Y:=C.push _
  wp_walk using wpAny_pyIter_list L,wpAny_pyIter_tuple P
  have j:∀(u n x a f c:Heap)(r t p q m:Obj),n=u.push r->x=n.push t->a=x.push p->f=a.push q->c=f.push m->r.isFreed=false->t.isFreed=false->p.isFreed=false->q.isFreed=false->m.isFreed=false ->
    (∀b o,u.get? b=some o->c.get? b=some o)/\u.objs.size < n.objs.size/\n.objs.size < x.objs.size/\x.objs.size < a.objs.size/\a.objs.size < f.objs.size /\
    c.get? u.objs.size=some r/\c.get? n.objs.size=some t/\c.get? x.objs.size=some p/\c.get? a.objs.size=some q/\c.get? f.objs.size=some m:=by
   intro u n x a f c r t p q m E G I J M f1 f2 f3 f4 f5;have N:n.get? u.objs.size=some r:=by rw[E];exact Heap.get?_push_size _ f1
   have O:x.get? n.objs.size=some t:=by rw[G];exact Heap.get?_push_size _ f2
   have Q:a.get? x.objs.size=some p:=by rw[I];exact Heap.get?_push_size _ f3
   have T:f.get? a.objs.size=some q:=by rw[J];exact Heap.get?_push_size _ f4
   have g5:c.get? f.objs.size=some m:=by rw[M];exact Heap.get?_push_size _ f5
   have W:∀b o,n.get? b=some o->x.get? b=some o:=λb o e=>by rw[G];exact Heap.get?_push_of_some _ e
   have D:∀b o,x.get? b=some o->a.get? b=some o:=λb o e=>by rw[I];exact Heap.get?_push_of_some _ e
   have K:∀b o,a.get? b=some o->f.get? b=some o:=λb o e=>by rw[J];exact Heap.get?_push_of_some _ e
   have H:∀b o,f.get? b=some o->c.get? b=some o:=λb o e=>by rw[M];exact Heap.get?_push_of_some _ e
   exact⟨λb o e=>H _ _ (K _ _ (D _ _ (W _ _ (by rw[E];exact Heap.get?_push_of_some _ e)))),Heap.lt_size N,Heap.lt_size O,Heap.lt_size Q,Heap.lt_size T,H _ _ (K _ _ (D _ _ (W _ _ N))),H _ _ (K _ _ (D _ _ O)),H _ _ (K _ _ Q),H _ _ T,g5⟩
  let r:Obj:={ cls:=.type "list_iterator",data:=.fields #[.ref l,.int 0 0] }
  let n:=i.push r
  let t:Obj:={ cls:=.type "tuple_iterator",data:=.fields #[.ref y,.int 0 0] }
  let x:=n.push t
  let p:Obj:={ cls:=.type "tuple",data:=.seq #[.ref i.objs.size,.ref n.objs.size] }
  let a:=x.push p
  let q:Obj:={ cls:=.type "tuple",data:=.seq #[.none,.none] }
  let f:=a.push q
  let m:Obj:={ cls:=.type "zip",data:=.fields #[.none,.bool false,.bool false,.ref x.objs.size,.ref a.objs.size] }
  obtain⟨k,s1,s2,s3,s4,Z,a2,a3,a4,a5⟩:=j i n x a f (f.push m) r t p q m rfl rfl rfl rfl rfl rfl rfl rfl rfl rfl;exact⟨_,rfl,h (f.push m) i.objs.size n.objs.size x.objs.size a.objs.size f.objs.size k (Nat.le_refl _) s1 s2 s3 s4 ⟨_,Z,rfl,rfl⟩ ⟨_,a2,rfl,rfl⟩ a3 a4 a5⟩
end
section
variable{prog:Program}{w:World}{A:Around}{E:VP}{s:Shared}
theorem yb(h:Q (s.heap.get? a) s):wpAny M A (loadIfAlive a) Q E s:=λx p _=>by unfold loadIfAlive;rw[Sem.wp_loadIfAlive];exact(Sem.wp_pure ..).mpr h
theorem nY{z TI TO T:Addr}{f:Bool}{o:Obj}{Q:Bool->Shared->Prop}(a:fW s.heap z TI TO (rawInt T) (.bool f))(n:s.heap.get? T=some o)
  (h:∀e,fW e z TI TO (rawInt T) (.bool true)->Heap.SameBut z s.heap e->Q false { s with heap:=e }):wpAny (model prog w) A (Builtin.SmallTypes.ownedTupleIsFree (.ref z)) Q E s:=by
 unfold Builtin.SmallTypes.ownedTupleIsFree;apply wpAny_bind;refine wpAny_field (show s.heap.get? z=some _ from a) rfl (x:=rawInt T) rfl ?_;unfold rawInt;dsimp only;apply wpAny_bind;refine yb ?_;rw[Int.toNat_natCast,n];rw[if_neg (by simp)];apply wpAny_bind;refine wpAny_field (show s.heap.get? z=some _ from a) rfl (x:=.bool f) rfl ?_;cases f with
 |true=>rw[if_neg (by decide)];exact wpAny_pure (h s.heap a ⟨rfl,λ_ _=>rfl⟩)
 |false=>rw[if_pos (by decide)];apply wpAny_bind;refine wpAny_setField (show s.heap.get? z=some _ from a) rfl (by simp) (wpAny_pure (h _ ?_ (qe ..)));unfold fW;rw[qC _ (show s.heap.get? z=some _ from a) rfl];simp[Obj.mapFields]
theorem w8{z TI TO i h l m T:Addr}{K:Bool}{k:Nat}{H S:Array Value}{x y:Value}{X:Obj}{Q:VP}(q:fW s.heap z TI TO (rawInt T) (.bool K))(I:eS s.heap TI (.ref i) (.ref h))(D:s.heap.get? T=some X)
  (P:s.heap.IsListIter i l k) (B:s.heap.IsTupleIter h m k) (t:s.heap.IsList l H) (p:s.heap.IsTuple m S) (L:H[k]? = some x) (M:S[k]? = some y)
  (u:i≠z) (g:h≠z) (R:l≠z) (V:m≠z) (j:h≠i) (W:m≠i) (n7:l≠h) (n8:l≠i) (n9:m≠h)
  (C:∀f:Heap,fW f z TI TO (rawInt T) (.bool true)->f.IsListIter i l (k+1)->f.IsTupleIter h m (k+1)->(∀c o,c≠z->c≠i->c≠h->s.heap.get? c=some o->f.get? c=some o) ->
   Q (.ref f.objs.size) { s with heap:=f.push { cls:=.type "tuple",data:=.seq #[x,y] } }) :
  wpAny (model prog w) A (Builtin.«zip.__next__» ⟨[.ref z],[]⟩) (λr Y=>∃v,r=.done (.ret v)/\Q v Y) E s:=by
 unfold Builtin.«zip.__next__»;apply wpAny_bind;apply wpAny_pure;apply wpAny_bind;refine wpAny_field (show s.heap.get? z=some _ from q) rfl (x:=.bool false) rfl ?_;apply wpAny_bind;refine wpAny_field (show s.heap.get? z=some _ from q) rfl (x:=.ref TI) rfl ?_;apply wpAny_bind;refine wpAny_seqItems (show s.heap.get? TI=some _ from I) rfl ?_;dsimp only;rw[if_neg (by simp)];apply wpAny_bind;refine nY q D λZ d b=>?_
 rw[if_neg (by simp)];apply wpAny_bind;rw[<- Array.forIn_toList];show wpAny _ _ (forIn [Value.ref i,Value.ref h] _ _) _ _ _;rw[List.forIn_cons];apply wpAny_bind;apply wpAny_bind;apply wpAny_holding;show wpAny _ _ (Builtin.SmallTypes.nextOf (.ref i) >>= _) _ _ _;apply wpAny_bind;refine wpAny_nextOf_list_item (P.extBut b.extBut u) (t.extBut b.extBut R) L λha N a=>wpAny_pure ?_;dsimp only;apply wpAny_pure;dsimp only;rw[List.forIn_cons];apply wpAny_bind;apply wpAny_bind;apply wpAny_holding;show wpAny _ _ (Builtin.SmallTypes.nextOf (.ref h) >>= _) _ _ _;apply wpAny_bind;refine s_ ((B.extBut b.extBut g).extBut a.extBut j) ((p.extBut b.extBut V).extBut a.extBut W) M λG O n=>wpAny_pure ?_;dsimp only;apply wpAny_pure;dsimp only;rw[List.forIn_nil];apply wpAny_pure;dsimp only;apply wpAny_bind;refine wpAny_newTuple (hsz:=by show 2≤sizeLine;decide) (wpAny_pure ⟨_,rfl,C G ?_ ?_ O ?_⟩)
 .exact n.extBut _ _ (Ne.symm g) (a.extBut _ _ (Ne.symm u) d)
 .exact N.extBut n.extBut (Ne.symm j)
 .exact λc o J U F e=>n.extBut _ _ F (a.extBut _ _ U (b.extBut _ _ J e))
theorem yk{z TI TO i f n T:Addr}{t:Bool}{k:Nat}{m:Array Value}{H:Obj}{Q:Fin->Shared->Prop}(d:A.handled=none)(a:fW s.heap z TI TO (rawInt T) (.bool t))(I:eS s.heap TI (.ref i) (.ref f))(v:s.heap.get? T=some H)
  (p:s.heap.IsListIter i n k) (l:s.heap.IsList n m) (u:m[k]? = none) (j:i≠z) (y:n≠z)
  (q:∀h e,(∀c o,c≠z->c≠i->s.heap.get? c=some o->h.get? c=some o)->(∃o,h.get? e=some o/\o.cls=.type "StopIteration")->E (.ref e) { s with heap:=h }) :
  wpAny (model prog w) A (Builtin.«zip.__next__» ⟨[.ref z],[]⟩) Q E s:=by
 unfold Builtin.«zip.__next__»;apply wpAny_bind;apply wpAny_pure;apply wpAny_bind;refine wpAny_field (show s.heap.get? z=some _ from a) rfl (x:=.bool false) rfl ?_;apply wpAny_bind;refine wpAny_field (show s.heap.get? z=some _ from a) rfl (x:=.ref TI) rfl ?_;apply wpAny_bind;refine wpAny_seqItems (show s.heap.get? TI=some _ from I) rfl ?_;dsimp only;rw[if_neg (by simp)];apply wpAny_bind;refine nY a v λS g b=>?_
 rw[if_neg (by simp)];apply wpAny_bind;rw[<- Array.forIn_toList];show wpAny _ _ (forIn [Value.ref i,Value.ref f] _ _) _ _ _;rw[List.forIn_cons];apply wpAny_bind;apply wpAny_bind;apply wpAny_holding;show wpAny _ _ (Builtin.SmallTypes.nextOf (.ref i) >>= _) _ _ _;apply wpAny_bind;exact wpAny_nextOf_list_end d (p.extBut b.extBut j) (l.extBut b.extBut y) u λh e x o=>q h e (λc F J U r=>x _ _ U (b.extBut _ _ J r)) o
end
section
variable{prog:Program}{w:World}{A:Around}{E:VP}{s:Shared}
theorem w9{z TI TO i m K l:Addr}{xs ys:Array Value}{x y:Value}{Q:VP}(d:fW s.heap z TI TO .none (.bool false))(I:eS s.heap TI (.ref i) (.ref m))(O:eS s.heap TO .none .none)
  (h1:s.heap.IsListIter i K 0) (h2:s.heap.IsTupleIter m l 0) (B:s.heap.IsList K xs) (C:s.heap.IsTuple l ys) (hx:xs[0]? = some x) (hy:ys[0]? = some y)
  (N:i≠z) (V:m≠z) (n3:K≠z) (n4:l≠z) (n5:m≠i) (n6:l≠i) (W:TO≠z) (X:TO≠i) (Y:TO≠m) (R:l≠TO)
  (hQ:∀(q:Heap) (T:Addr),fW q z TI TO (rawInt T) (.bool false)->q.IsListIter i K 1->q.IsTupleIter m l 1->eS q T x y->s.heap.get? T=none->(∀c o,c≠z->c≠i->c≠m->c≠TO->s.heap.get? c=some o->q.get? c=some o) ->
   Q (.ref T) { s with heap:=q }) :
  wpAny (model prog w) A (Builtin.«zip.__next__» ⟨[.ref z],[]⟩) (λP s'=>∃v,P=.done (.ret v)/\Q v s') E s:=by
 unfold Builtin.«zip.__next__»;apply wpAny_bind;apply wpAny_pure;apply wpAny_bind;refine wpAny_field (show s.heap.get? z=some _ from d) rfl (x:=.bool false) rfl ?_;apply wpAny_bind;refine wpAny_field (show s.heap.get? z=some _ from d) rfl (x:=.ref TI) rfl ?_;apply wpAny_bind;refine wpAny_seqItems (show s.heap.get? TI=some _ from I) rfl ?_;dsimp only;rw[if_neg (by simp)];apply wpAny_bind;unfold Builtin.SmallTypes.ownedTupleIsFree;apply wpAny_bind;refine wpAny_field (show s.heap.get? z=some _ from d) rfl (x:=.none) rfl (wpAny_pure ?_);rw[if_pos rfl];apply wpAny_bind;apply wpAny_rule;apply wpAny_bind;refine wpAny_field (show s.heap.get? z=some _ from d) rfl (x:=.ref TO) rfl ?_;dsimp only;apply wpAny_bind;refine wpAny_setField_rec (show s.heap.get? z=some _ from d) (by simp) λh0 D b=>?_
 apply wpAny_bind;show wpAny _ _ (forIn [(Value.ref i,0),(Value.ref m,1)] _ _) _ _ _;rw[List.forIn_cons];apply wpAny_bind;apply wpAny_bind;apply wpAny_onRaise;show wpAny _ _ (Builtin.SmallTypes.nextOf (.ref i) >>= _) _ _ _;apply wpAny_bind;refine wpAny_nextOf_list_item (h1.extBut b.extBut N) (B.extBut b.extBut n3) hx λha ia h=>wpAny_pure ?_;dsimp only;have H:ha.get? TO=some { cls:=.type "tuple",data:=.seq #[.none,.none] }:=h.extBut _ _ X (b.extBut _ _ W O);apply wpAny_bind;refine wpAny_seqItems H rfl ?_;dsimp only;apply wpAny_bind;refine wpAny_updateSeq_pair (s:={ s with heap:=ha }) H λhb t a=>?_;replace t:hb.get? TO=some { cls:=.type "tuple",data:=.seq #[x,.none] }:=t;apply wpAny_bind;apply wpAny_letGo;apply wpAny_pure;dsimp only;rw[List.forIn_cons];apply wpAny_bind;apply wpAny_bind;apply wpAny_onRaise;show wpAny _ _ (Builtin.SmallTypes.nextOf (.ref m) >>= _) _ _ _;apply wpAny_bind;refine s_ (((h2.extBut b.extBut V).extBut h.extBut n5).extBut a.extBut (Ne.symm Y)) (((C.extBut b.extBut n4).extBut h.extBut n6).extBut a.extBut R) hy λhc ic n=>wpAny_pure ?_;dsimp only;have S:hc.get? TO=some { cls:=.type "tuple",data:=.seq #[x,.none] }:=n.extBut _ _ Y t;apply wpAny_bind;refine wpAny_seqItems S rfl ?_;dsimp only;apply wpAny_bind;refine wpAny_updateSeq_pair (s:={ s with heap:=hc }) S λhd p f=>?_;replace p:hd.get? TO=some { cls:=.type "tuple",data:=.seq #[x,y] }:=p;apply wpAny_bind;apply wpAny_letGo;apply wpAny_pure;dsimp only;rw[List.forIn_nil];apply wpAny_pure;dsimp only;apply wpAny_bind;refine wpAny_seqItems p rfl ?_;dsimp only;apply wpAny_bind;refine wpAny_newTuple (hsz:=by show 2≤sizeLine;decide) ?_;have u:hd.get? z=some { cls:=.type "zip",data:=.fields #[.ellipsis,.bool false,.bool false,.ref TI,.ref TO] }:=f.extBut _ _ (Ne.symm W) (n.extBut _ _ (Ne.symm V) (a.extBut _ _ (Ne.symm W) (h.extBut _ _ (Ne.symm N) D)));have F:=Heap.lt_size u;have G:(hd.push { cls:=.type "tuple",data:=.seq #[x,y] }).get? z=some { cls:=.type "zip",data:=.fields #[.ellipsis,.bool false,.bool false,.ref TI,.ref TO] }:=Heap.get?_push_of_some _ u;apply wpAny_bind;unfold Builtin.SmallTypes.ownedTupleHandOut;dsimp only;apply wpAny_bind;refine wpAny_setField_rec G (by simp) λhe L g=>?_;refine wpAny_setField_rec L (by simp) λhf M j=>?_;have k:∀c o,c≠z->hd.get? c=some o->hf.get? c=some o:=λc o J e=>j.extBut _ _ J (g.extBut _ _ J (Heap.get?_push_of_some _ e));refine wpAny_pure ⟨_,rfl,hQ hf hd.objs.size M ?_ ?_ ?_ ?_ ?_⟩
 .exact (((ia.extBut a.extBut (Ne.symm X)).extBut n.extBut (Ne.symm n5)).extBut f.extBut (Ne.symm X)).at λo e=>k _ o N e
 .obtain⟨o,e,r⟩:=ic.extBut f.extBut (Ne.symm Y);exact⟨o,k _ o V e,r⟩
 .exact j.extBut _ _ (cE F) (g.extBut _ _ (cE F) (Heap.get?_push_size _ rfl))
 .cases e:s.heap.get? hd.objs.size with
  |none=>rfl
  |some o=>exact absurd (Heap.lt_size e) (by rw[f.1,n.1,a.1,h.1,b.1];exact i7 _)
 .exact λc o J U c3 Z e=>k c o J (f.extBut _ _ Z (n.extBut _ _ c3 (a.extBut _ _ Z (h.extBut _ _ U (b.extBut _ _ J e)))))
theorem ym(j:A.handled=none)(a:fW s.heap z TI TO .none (.bool false))(T:eS s.heap TI (.ref k) (.ref I))
  (u:s.heap.IsListIter k d 0) (l:s.heap.IsList d M) (y:M[0]? = none) (t:k≠z) (S:d≠z)
  (i:∀h e,(∀c o,c≠z->c≠k->s.heap.get? c=some o->h.get? c=some o)->(∃o,h.get? e=some o/\o.cls=.type "StopIteration")->E (.ref e) { s with heap:=h }) :
  wpAny (model prog w) A (Builtin.«zip.__next__» ⟨[.ref z],[]⟩) Q E s:=by
 unfold Builtin.«zip.__next__»;apply wpAny_bind;apply wpAny_pure;apply wpAny_bind;refine wpAny_field (show s.heap.get? z=some _ from a) rfl (x:=.bool false) rfl ?_;apply wpAny_bind;refine wpAny_field (show s.heap.get? z=some _ from a) rfl (x:=.ref TI) rfl ?_;apply wpAny_bind;refine wpAny_seqItems (show s.heap.get? TI=some _ from T) rfl ?_;dsimp only;rw[if_neg (by simp)];apply wpAny_bind;unfold Builtin.SmallTypes.ownedTupleIsFree;apply wpAny_bind;refine wpAny_field (show s.heap.get? z=some _ from a) rfl (x:=.none) rfl (wpAny_pure ?_);rw[if_pos rfl];apply wpAny_bind;apply wpAny_rule;apply wpAny_bind;refine wpAny_field (show s.heap.get? z=some _ from a) rfl (x:=.ref TO) rfl ?_;dsimp only;apply wpAny_bind;refine wpAny_setField_rec (show s.heap.get? z=some _ from a) (by simp) λK r b=>?_
 apply wpAny_bind;show wpAny _ _ (forIn [(Value.ref k,0),(Value.ref I,1)] _ _) _ _ _;rw[List.forIn_cons];apply wpAny_bind;apply wpAny_bind;apply wpAny_onRaise;show wpAny _ _ (Builtin.SmallTypes.nextOf (.ref k) >>= _) _ _ _;apply wpAny_bind;refine wpAny_nextOf_list_end j (u.extBut b.extBut t) (l.extBut b.extBut S) y λh e x o=>?_;have n:=x _ _ (Ne.symm t) r;refine wpAny_setField_rec (s:={ s with heap:=h }) n (by simp) λg H f=>i g e (λc p J U v=>f.extBut _ _ J (x _ _ U (b.extBut _ _ J v))) ?_;obtain⟨p,m,c⟩:=o;have F:e≠z:=λq=>by rw[q,n]at m;cases m;exact absurd (show Value.type "zip"=Value.type "StopIteration" from c) (by decide)
 exact⟨p,f.extBut _ _ F m,c⟩
end
theorem sU:typeLookup (.type "zip") "keys"=pure none:=by rw[typeLookup_type,builtinLookup_eq_fast];kernel_rfl
theorem nu:typeLookup (.type "zip") "__getattr__"=pure none:=by rw[typeLookup_type,builtinLookup_eq_fast];kernel_rfl
theorem lp:entryFor table "zip.__getattribute__"=some Builtin.«object.__getattribute__»:=
 entryFor_alias (id':="object.__getattribute__") (by kernel_rfl) (by decide +kernel) (by decide +kernel) (by kernel_rfl)
section
variable{prog:Program}{w:World}{A:Around}{E:VP}{s:Shared}
theorem yi(z TI TO:Addr)(f0 f1:Value)(u:Tok):Meets (Builtin.«object.__getattribute__» ⟨[.ref z,.str "keys" u],[]⟩) (λA R s=>fW s.heap z TI TO f0 f1/\raisesAttr (.ref z) "keys" A R s):=
 .of_wp λprog w A R s hs=>by
  obtain⟨hp,g,d,tk,os⟩:=s;obtain⟨hx,hs⟩:=hs;unfold fW at hx;have hT:(⟨hp,g,d,tk,os⟩:Shared).TypeIs (.ref z) "zip":=⟨_,hx,rfl⟩;have nk:=sU;unfold Builtin.«object.__getattribute__»;repeat any_goals first|assumption|wp_step
  exact wpAny_raiseAttrError hs.1 hs.2 (attrMsg_fits (by decide +kernel) (by size_fits))
theorem w5(q:fW s.heap z TI TO l j)(i:A.handled=none)
  (h:∀x v,(∀b o,s.heap.get? b=some o->x.get? b=some o)->Q none { s with heap:=x,toks:=v }):wpAny (model prog w) A (getAttr? (.ref z) "keys") Q E s:=by
 obtain⟨p,g,d,v,os⟩:=s;have T:∀t,(⟨p,g,d,t,os⟩:Shared).TypeIs (.ref z) "zip":=λ_=>⟨_,q,rfl⟩;have j:=sub_AttributeError;have y:=qG.lookup;have H:=qG.bind (.ref z);have S:=nu;have step:∀(n:Nat)(u:Tok)(m:VP)(f:VP),(∀x c e,Heap.NewAttrErr p x e (.ref z) "keys"->f (.ref e) ⟨x,g,d,c,os⟩) ->
   wpAny (model prog w) A (call (Value.builtin "zip.__getattribute__") ([Value.ref z]++[Value.str "keys" u]) []) m f ⟨p,g,d,n,os⟩:=λn u m f k=>
  call_meets qG (T _) lp (F.args_zip_getattribute_2 _ _) (yi z TI TO _ _ u) ⟨q,i,k⟩
 unfold getAttr?;unfold getAttrBy?;unfold getAttrBy;repeat any_goals first|assumption|exact T _|(with_reducible refine step _ _ _ _ λx t e a=>?_)|wp_step
 have r:=a.there;obtain⟨K,P,r⟩:=r;repeat any_goals first|assumption|wp_step
 exact h _ _ a.keeps
end
section
variable{prog:Program}{w:World}{A:Around}{E:VP}{s:Shared}
theorem yh(n:s.TypeIs (.ref z) "zip")
  (h:wpAny (model prog w) A.in1 (Builtin.«zip.__next__» ⟨[.ref z],[]⟩) (λf x=>∃v,f=.done (.ret v)/\Q (some v) x) (λe x=>∃a o,e=.ref a/\x.heap.get? a=some o/\o.cls=.type "StopIteration"/\Q none x) s) :
  wpAny (model prog w) A (pyNext (.ref z)) Q E s:=by
 unfold pyNext;apply wpAny_bind;apply wpAny_attempt;refine wpAny_callSpecial?_slot (name:=Str.ofString "__next__") n F.slot_zip_next (wpAny_call_entry F.slot_zip_next n F.entry_zip_next (wpAny_mono h (λf x ⟨v,e,q⟩=>⟨v,e,wpAny_pure q⟩) λe x ⟨a,o,k,c,m,q⟩=>?_) (F.args_zip_next_1 _));subst k;apply wpAny_bind;exact wpAny_isInstance (T:="StopIteration") (b:=true) ⟨_,c,m⟩ isSubtype_stop (wpAny_pure q)
def Cs(d:Addr)(h:Heap)(z TI TO i x l a:Addr)(k:Nat):Prop:=eS h TI (.ref i) (.ref x)/\h.IsListIter i l k/\h.IsTupleIter x a k /\
 ((k=0/\fW h z TI TO .none (.bool false)/\eS h TO .none .none)\/∃(T:Addr)(o:Obj)(f:Bool),fW h z TI TO (rawInt T) (.bool f)/\h.get? T=some o/\T≠z/\T≠i/\T≠x/\T≠d)
structure ZAp(d z TI TO i1 i2 l1 l2:Addr):Prop where
 nd:[d,z,TI,TO,i1,i2].Nodup
 l1n:l1 ∉ [d,z,TI,TO,i1,i2]
 l2n:l2 ∉ [d,z,TI,TO,i1,i2]
theorem Cs.typeIs(x:Cs d s.heap z TI TO n q l g k):s.TypeIs (.ref z) "zip":=by
 obtain⟨_,_,_,⟨_,h,_⟩|⟨T,o,f,h,_⟩⟩:=x
 .exact⟨_,h,rfl⟩
 .exact⟨_,h,rfl⟩
theorem Cs.but(x:Cs d h z TI TO q g l j k)(p:ZAp d z TI TO q g l j)(s:Heap.SameBut d h I):Cs d I z TI TO q g l j k:=by
 have n:=p.nd;simp only[List.nodup_cons,bq,eZ,eX,not_or]at n;obtain⟨b,c,m,r⟩:=x;refine⟨s.extBut _ _ (Ne.symm n.1.2.1) b,c.extBut s.extBut (Ne.symm n.1.2.2.2.1),m.extBut s.extBut (Ne.symm n.1.2.2.2.2),?_⟩;rcases r with ⟨e,a,t⟩|⟨T,o,v,a,t,w,u,i,f⟩
 .exact .inl ⟨e,s.extBut _ _ (Ne.symm n.1.1) a,s.extBut _ _ (Ne.symm n.1.2.2.1) t⟩
 .exact .inr ⟨T,o,v,s.extBut _ _ (Ne.symm n.1.1) a,s.extBut _ _ f t,w,u,i,f⟩
theorem yo(p:ZAp d z TI TO I M l1 l2)(a:Cs d s.heap z TI TO I M l1 l2 k)(hd:s.heap.get? d=some od)(l:s.heap.IsList l1 xs)(b:s.heap.IsTuple l2 ys)(B:xs[k]? = some x)(C:ys[k]? = some y)
  (P:∀h T,Cs d h z TI TO I M l1 l2 (k+1)->eS h T x y->T≠d->(∀c o,c ∉ [z,TO,I,M]->s.heap.get? c=some o->h.get? c=some o)->Q (some (.ref T)) { s with heap:=h }) :
  wpAny (model prog w) A (pyNext (.ref z)) Q E s:=by
 have V:=p.nd;have R:=p.l1n;have U:=p.l2n;simp only[List.nodup_cons,bq,eZ,eX,not_or]at V R U;refine yh a.typeIs ?_;obtain⟨m,g,i,O⟩:=a;rcases O with ⟨e,v,t⟩|⟨T,W,f1,v,t,J,L,N,Z⟩
 .subst e;refine w9 v m t g i l b B C (by grind) (by grind) (by grind) (by grind) (by grind) (by grind) (by grind) (by grind) (by grind) (by grind) λh T S F K D G q=>?_
  have fresh:∀c o,s.heap.get? c=some o->T≠c:=λc o f z=>by rw[z,f]at G;cases G
  obtain⟨X,j,_⟩:=g;obtain⟨Y,H,_⟩:=i;exact P h T ⟨q _ _ (by grind) (by grind) (by grind) (by grind) m,F,K,.inr ⟨T,_,false,S,D,fresh _ _ v,fresh _ _ j,fresh _ _ H,fresh _ _ hd⟩⟩ D (fresh _ _ hd) λc o n f=>q c o (λz=>n (by simp[z])) (λz=>n (by simp[z])) (λz=>n (by simp[z])) (λz=>n (by simp[z])) f
 .refine w8 v m t g i l b B C (by grind) (by grind) (by grind) (by grind) (by grind) (by grind) (by grind) (by grind) (by grind) λh S F K q=>?_;have dl:d < h.objs.size:=Heap.lt_size (q _ _ (by grind) (by grind) (by grind) hd);have u:∀c o,h.get? c=some o->(h.push { cls:=.type "tuple",data:=.seq #[x,y] }).get? c=some o:=λc o e=>Heap.get?_push_of_some _ e;refine P _ _ ⟨u _ _ (q _ _ (by grind) (by grind) (by grind) m),?_,?_,.inr ⟨T,W,true,u _ _ S,u _ _ (q _ _ J L N t),J,L,N,Z⟩⟩ (Heap.get?_push_size _ rfl) (cE dl) λc o n f=>u _ _ (q c o (λz=>n (by simp[z])) (λz=>n (by simp[z])) (λz=>n (by simp[z])) f)
  .obtain⟨o,e,r⟩:=F;exact⟨o,u _ _ e,r⟩
  .obtain⟨o,e,r⟩:=K;exact⟨o,u _ _ e,r⟩
theorem AQ(u:A.handled=none)(p:ZAp d z TI TO j I M l2)(a:Cs d s.heap z TI TO j I M l2 k)(l:s.heap.IsList M xs)(i:xs[k]? = none)
  (v:∀h,(∀c o,c ∉ [z,TO,j,I]->s.heap.get? c=some o->h.get? c=some o)->Q none { s with heap:=h }):wpAny (model prog w) A (pyNext (.ref z)) Q E s:=by
 have S:=p.nd;have H:=p.l1n;simp only[List.nodup_cons,bq,eZ,eX,not_or]at S H;refine yh a.typeIs ?_;obtain⟨r,t,F,y⟩:=a;rcases y with ⟨e,n,g⟩|⟨T,P,K,n,g,B,C,D,G⟩
 .subst e;exact ym u n r t l i (by grind) (by grind) λh e q n=>by obtain⟨o,b,m⟩:=n;exact⟨e,o,rfl,b,m,v h λc o x f=>q c o (λz=>x (by simp[z])) (λz=>x (by simp[z])) f⟩
 .exact yk u n r g t l i (by grind) (by grind) λh e q ⟨o,b,m⟩=>⟨e,o,rfl,b,m,v h λc o x f=>q c o (λz=>x (by simp[z])) (λz=>x (by simp[z])) f⟩
end
section
variable{prog:Program}{w:World}{K:Type}[DecidableEq K]{t:KeyKind prog w K}{A:Around}{E:VP}{R:Result->Shared->Prop}
inductive ZipsAt(knd:KeyKind prog w K):LV->LV->List (K×Value)->Prop
 |nil {vs:LV}:ZipsAt knd [] vs []
 |cons {key v:Value}{k:K}{us vs:LV}{kvs:List (K×Value)}:knd.is k key=true->ZipsAt knd us vs kvs->ZipsAt knd (key::us) (v::vs) ((k,v)::kvs)
set_option tactic.hygienic true in
theorem vH(hh:A.handled=none){n:Heap}(p:ZAp d z TI TO i1 i2 l1 l2)(fr:∀c ∈ [d,z,TI,TO,i1,i2],n.get? c=none)(G:n.IsList l1 g)(hl2:n.IsTuple l2 ys) :
  ∀(ck:List (K×Value))(i:Nat)(a:List (K×Value))(s:Shared),(∀b o,n.get? b=some o->s.heap.get? b=some o)->Cs d s.heap z TI TO i1 i2 l1 l2 i->s.heap.DictOf t d a->ZipsAt t (g.toList.drop i) (ys.toList.drop i) ck ->
   ((a++ck).map (·.1)).Nodup->(a++ck).length≤sizeLine->i+ck.length=g.size ->
   (∀u t',(∀b o,n.get? b=some o->u.get? b=some o)->u.DictOf t d (a++ck)->R (.ok (.ret .none)) { s with heap:=u,toks:=t' }) ->
   codeAny (model prog w) A (.builtin "dict.update.loop" ⟨[.ref d,.ref z,rawInt i,.none],[]⟩) R s:=by
 have nd:=p.nd;simp only[List.nodup_cons,bq,eZ,eX,not_or]at nd;have H:∀b o,n.get? b=some o->b ∉ [d,z,TI,TO,i1,i2]:=λb o e m=>by rw[fr b m]at e;cases e
 have dz:d ∉ [z,TO,i1,i2]:=by simp only[bq,eZ,eX,not_or];grind
 intro ck;induction ck with
 |nil=>
  intro i a s S j hd Q J U hi h;have E:g[i]? = none:=by simp at hi ⊢;lia
  have l:s.heap.IsList l1 g:=by obtain⟨o,y,r⟩:=G;exact⟨o,S _ _ y,r⟩
  refine codeAny_builtin F.entry_dict_update_loop ?_;rw[Around.under_plainId F.plain_dict_update_loop _];unfold Builtin.«dict.update.loop»;show wpAny _ A.in1 (pyNext (.ref z) >>= _) _ _ s;refine wpAny_bind (AQ hh p j l E λu P=>?_);show wpAny _ A.in1 (Builtin.Dict.addKeywords d [] >>= _) _ _ _;rw[List.append_nil]at h;apply wpAny_bind;apply wpAny_pure;apply wpAny_pure;refine h u s.toks (λb o e=>P b o (λm=>H b o e (by simp only[bq,eZ,eX]at m ⊢;grind)) (S b o e)) ?_;obtain⟨o,N,ep,y,r⟩:=hd;exact⟨o,N,ep,P _ _ dz y,r⟩
 |cons kv ck ih=>
  intro i a s S j hd Q J U hi h;have l:s.heap.IsList l1 g:=by obtain⟨o,y,r⟩:=G;exact⟨o,S _ _ y,r⟩
  have I:s.heap.IsTuple l2 ys:=by obtain⟨o,y,r⟩:=hl2;exact⟨o,S _ _ y,r⟩
  generalize er:g.toList.drop i=us at Q;generalize N:ys.toList.drop i=vs at Q;cases Q with
  |cons hk hps=>
   rename_i B v k us' vs';have hx:g[i]? = some B:=by have:=congrArg (·[0]?) er;simpa using this
   have hy:ys[i]? = some v:=by have:=congrArg (·[0]?) N;simpa using this
   have X:g.toList.drop (i+1)=us':=by rw[<- List.drop_drop,er];rfl
   have Y:ys.toList.drop (i+1)=vs':=by rw[<- List.drop_drop,N];rfl
   obtain⟨od,V,W,L,hdr⟩:=id hd;refine codeAny_builtin F.entry_dict_update_loop ?_;rw[Around.under_plainId F.plain_dict_update_loop _];unfold Builtin.«dict.update.loop»;show wpAny _ A.in1 (pyNext (.ref z) >>= _) _ _ s;refine wpAny_bind (yo p j L l I hx hy λO T za f hTd P=>?_);have kp1:∀b o,n.get? b=some o->O.get? b=some o:=λb o e=>P b o (λm=>H b o e (by simp only[bq,eZ,eX]at m ⊢;grind)) (S b o e);have hd1:O.DictOf t d a:=⟨od,V,W,P _ _ dz L,hdr⟩;show wpAny _ A.in1 (holding [Value.ref T] _ >>= _) _ _ _;apply wpAny_bind;apply wpAny_holding;apply wpAny_bind;apply wpAny_tryCatch;unfold Builtin.Dict.pairItems;refine wpAny_bind (kz (T:="tuple") ⟨_,f,rfl⟩ ?_);rw[if_pos (by decide)];refine wpAny_bind (wpAny_seqItems (show O.get? T=some _ from f) rfl (wpAny_pure ?_));show wpAny _ A.in1 (holding [B,v] (dictSet d B v)) _ _ _;refine wpAny_holding ?_;refine wpAny_dictSet_pairs (s:={ s with heap:=O }) hk hd1 (λh2 D M=>?_) (by simp at U;lia);have hnk:k ∉ a.map (·.1):=by intro hm;rw[List.map_append,List.nodup_append]at J;exact J.2.2 _ hm _ (by simp) rfl
   have Z:stored a k v=a++[(k,v)]:=by unfold stored;rw[if_neg];intro C;obtain⟨x,hx1,hx2⟩:=mR.mp C;exact hnk (aX.mpr ⟨x,hx1,of_decide_eq_true hx2⟩)
   rw[Z]at D;refine wpAny_pure ⟨plainId_quiet F.plain_dict_update_loop _,?_⟩;have kp2:∀b o,n.get? b=some o->h2.get? b=some o:=λb o e=>M.extBut _ _ (λq=>H b o e (by simp[q])) (kp1 b o e);have e1:a++(k,v)::ck=(a++[(k,v)])++ck:=by simp
   rw[e1]at J U h;exact ih (i+1) (a++[(k,v)]) { s with heap:=h2,toks:=s.toks+1 } kp2 (za.but p M) D (X ▸ Y ▸ hps) J U (by simp at hi;lia) λu t' k1 k2=>h u t' k1 k2
end
section
variable{prog:Program}{w:World}{K:Type}[DecidableEq K]{t:KeyKind prog w K}{A:Around}{E:VP}{s:Shared}
theorem uE(l:s.heap.IsList n I)(e:s.heap.IsTuple q M)
  (h:∀x i a TI TO z,(∀b o,s.heap.get? b=some o->x.get? b=some o)->s.heap.objs.size≤i->i < a->a < TI->TI < TO->TO < z->x.IsListIter i n 0->x.IsTupleIter a q 0->eS x TI (.ref i) (.ref a)->eS x TO .none .none ->
   fW x z TI TO .none (.bool false)->Q (.ref z) { s with heap:=x }):wpAny (model prog w) A (call (.type "zip") [.ref n,.ref q]) Q E s:=by
 refine callType_new F.called_zip (by decide) (F.typeCall_zip_2 _ _) (F.newCall_zip_2 _ _) (λj=>F.args_object_init_3 j _ _) F.entry_zip_new (yj n q I M) ⟨l,e,λx i a TI TO z k c m r t p v d u g f=>?_⟩;show _/\_;exact⟨⟨_,f,rfl⟩,h x i a TI TO z k c m r t p v d u g f⟩
theorem pf{x:Heap}(hh:A.handled=none)(k0:∀b o,x.get? b=some o->s.heap.get? b=some o)(j:x.IsList l1 xs)(y:x.IsTuple l2 ys)
  (u:x.objs.size≤I) (P:I < M) (B:M < TI) (S:TI < TO) (g:TO < z) (b1:s.heap.IsListIter I l1 0) (b2:s.heap.IsTupleIter M l2 0) (b3:eS s.heap TI (.ref I) (.ref M)) (b4:eS s.heap TO .none .none) (i:fW s.heap z TI TO .none (.bool false))
  (hp:ZipsAt t xs.toList ys.toList C) (hn:(C.map (·.1)).Nodup) (hz:C.length≤sizeLine) (hi:C.length=xs.size)
  (h:∀f R,(∀b o,x.get? b=some o->f.get? b=some o)->f.DictOf t s.heap.objs.size C->Q (.ref s.heap.objs.size) { s with heap:=f,toks:=R }) :
  wpAny (model prog w) A (call (.type "dict") [.ref z]) Q E s:=by
 have fresh:(s.heap.push { cls:=.type "dict",data:=.dict #[] }).DictOf t s.heap.objs.size []:=.new s.heap;have d:∀b o,s.heap.get? b=some o->(s.heap.push { cls:=.type "dict",data:=.dict #[] }).get? b=some o:=λb o=>Heap.get?_push_of_some _;have k:z < s.heap.objs.size:=Heap.lt_size i;have H:=kt_code_dict_new (prog:=prog) (w:=w) (A:=A.in1) (E:=E) (s:=s) (Value.ref z) (Q₁:=λv z=>v=.ref s.heap.objs.size/\z={ s with heap:=s.heap.push { cls:=.type "dict",data:=.dict #[] } }) ⟨rfl,rfl⟩;apply callType_codes F.kt_called_dict (F.kt_typeCall_dict_1 (.ref z)) F.entry_dict_init H;rintro _ _ ⟨e,e'⟩;subst e e';generalize s.heap.push { cls:=.type "dict",data:=.dict #[] }=h1 at fresh d;refine⟨fresh.typeIs,F.args_dict_init_2 (.ref s.heap.objs.size) (.ref z),?_⟩;unfold Builtin.«dict.__init__» Builtin.Dict.selfAndRest;apply wpAny_bind;apply wpAny_bind;apply wpAny_notOrdered_dict fresh.typeIs;apply wpAny_pure;show wpAny _ _ (Builtin.Dict.updateFrom "dict.__init__" s.heap.objs.size (.ref z) [] .none) _ _ _;unfold Builtin.Dict.updateFrom;refine wpAny_bind (kz (T:="zip") ⟨_,d _ _ i,rfl⟩ ?_);rw[if_pos (by decide)];refine wpAny_bind (w5 (d _ _ i) hh λZ tk k2=>?_);rw[if_pos (by rfl)];refine wpAny_bind (wpAny_rule ?_);have q:∀b o,s.heap.get? b=some o->Z.get? b=some o:=λb o e=>k2 b o (d b o e);have G:Z.DictOf t s.heap.objs.size []:=by obtain⟨o,N,ep,ho,r⟩:=fresh;exact⟨o,N,ep,k2 _ _ ho,r⟩
 refine wpAny_bind (wpAny_pyIter_zip (z:=z) (TI:=TI) (TO:=TO) (f0:=.none) (q _ _ i) ?_);refine wpAny_pure ⟨plainId_quiet F.plain_dict_update_loop _,?_⟩;have L:l1 < x.objs.size:=by obtain⟨o,e,_⟩:=j;exact Heap.lt_size e
 have O:l2 < x.objs.size:=by obtain⟨o,e,_⟩:=y;exact Heap.lt_size e
 have n:∀{a b c:Nat},a < b->b < c->a < c:=λh f=>k_ h f;have J:=n P B;have U:=n J S;have D:=n U g;have V:=n D k;have W:=n B S;have X:=n W g;have c7:=n X k;have Y:=n S g;have c9:=n Y k;have ca:=n g k;have low:∀{l c:Nat},l < x.objs.size->x.objs.size≤c->l≠c:=λh f=>b0 (cj h f);have ge:∀c ∈ [s.heap.objs.size,z,TI,TO,I,M],x.objs.size≤c:=λc K=>by
  simp only[bq,eZ,eX]at K;rcases K with rfl|rfl|rfl|rfl|rfl|rfl
  .exact aM u (iq V)
  .exact aM u (iq D)
  .exact aM u (iq J)
  .exact aM u (iq U)
  .exact u
  .exact aM u (iq P)
 have p:ZAp s.heap.objs.size z TI TO I M l1 l2:=by refine⟨?_,λm=>low L (ge _ m) rfl,λm=>low O (ge _ m) rfl⟩;simp only[List.nodup_cons,bq,eZ,eX,not_or,List.nodup_nil,not_false_eq_true,cD];exact⟨⟨cE k,cE c9,cE ca,cE V,cE c7⟩,⟨cE Y,cE g,cE D,cE X⟩,⟨b0 S,cE J,cE B⟩,⟨cE U,cE W⟩,b0 P⟩
 refine vH (A:=A.in1) (t:=t) (n:=x) hh p (λc K=>?_) j y C 0 [] _ (λb o e=>q b o (k0 b o e)) ⟨q _ _ b3,?_,?_,.inl ⟨rfl,q _ _ i,q _ _ b4⟩⟩ G (by simpa using hp) (by simpa using hn) (by simpa using hz) (by lia) λf R q1 q2=>?_
 .cases e:x.get? c with
  |none=>rfl
  |some o=>exact absurd rfl (low (Heap.lt_size e) (ge c K))
 .obtain⟨o,e,r⟩:=b1;exact⟨o,q _ _ e,r⟩
 .obtain⟨o,e,r⟩:=b2;exact⟨o,q _ _ e,r⟩
 .exact⟨rfl,h f R q1 q2⟩
end
end PySem
namespace Ev
open PySem PySem.Spec PyProof.Rows L2
def rW(Y fb:EV):EE:=λL S=>aG (Y L S) λx a=>aG (fb L a) λy h=>match x,y with
 | .lst k,.tup v=>match cn k with
  |some B=>if (B.Nodup/\few k=true/\B.length≤v.length) then some (.ref h.length,h++[.dct B ((v.take B.length).map .p)]) else none
  |none=>none
 |_,_=>none
theorem vU:∀{B:List bB}{s i:LV}{x:List V},aK (B.map kV) s->aK x i->B.length≤x.length->ZipsAt (bJ g w) s i (B.zip i)/\L2.KV (B.zip x) (B.zip i)
 | [],_,i,x,h,_,_=>by cases h;exact⟨.nil,.nil⟩
 |k::B,_,_,[],h,_,l=>absurd l (by simp)
 |k::B,_,_,y::x,h,e,l=>by
  cases h with
  |cons r t=>
   cases e with
   |cons n f=>obtain⟨a,b⟩:=vU (g:=g) (w:=w) t f (by simpa using l);exact⟨.cons (kL r) a,.cons ⟨rfl,n⟩ b⟩
theorem lm:∀{xs:List L}{ys:List n},xs.length≤ys.length->(xs.zip ys).map (·.1)=xs/\(xs.zip ys).map (·.2)=ys.take xs.length
 | [],ys,_=>by simp
 |x::xs,[],h=>absurd h (by simp)
 |x::xs,y::ys,h=>by obtain⟨a,b⟩:=lm (xs:=xs) (ys:=ys) (by simpa using h);simp[a,b]
section
variable{X:Cx}{a b:Expr}{Y fb:EV}{p G J U:Pos}
set_option tactic.hygienic true in
theorem Dp(hc:X.calm=true)(gd:Gl X "dict")(md:X.mg "dict"=none)(gz:Gl X "zip")(mz:X.mg "zip"=none)(ha:PE X a (tV X.K Y))(hb:PE X b (tV X.K fb))(hs:starEach [a,b] X.env=[(false,eval a X.env),(false,eval b X.env)])(R:starEach [b] X.env=[(false,eval b X.env)])(hz:bootBuiltins "zip"=some (.type "zip")) :
  PE X (.Call (.Name "dict" p) [.Call (.Name "zip" G) [a,b] [] U] [] J) (tE X.K (rW Y fb)):=by
 intro pins s σ H Q I ⟨F,m,L,S,d,S',r,l,q,k⟩;obtain⟨x,S1,e1,q⟩:=ai q;obtain⟨y,S2,e2,q⟩:=ai q;have hh:X.A.handled=none:=I.ok.hd hc;refine lg (lC I gd md PyProof.Rows.boot_dict ?_ (by decide) (by decide));refine nr (Calls.spliced_cons ?_) rfl rfl;refine lg (lC I gz mz hz ?_ (by decide) (by decide));refine nr ?_ (by rw [hs,R]) (by rw [R];rfl);rw [hs];refine Calls.spliced_cons (cG (ha pins s σ H (fun v f=>∃e K,Stp F m H e K f/\Rel X.K e f K S1/\RP X.K e f x v) I ⟨F,m,L,S,x,S1,r,l,e1,fun v e K f s1 r1 p1=>⟨e,K,s1,r1,p1⟩⟩) fun u s1 ⟨v,f,I1,ru,e,K,W,r1,p1⟩=>
  Calls.spliced_cons (cG (hb pins s1 σ f (λv A=>∃n C,Stp e K f n C A/\Rel X.K n A C S2/\RP X.K n A y v) I1 ⟨e,K,L,S1,y,S2,r1,l.mono W,e2,λv n C A D r2 G=>⟨n,C,D,r2,G⟩⟩) λu2 D ⟨v2,A,E,ru2,n,C,Z,r2,G⟩=>j4 ?_))
 cases x with
 |lst ks=>
  cases y with
  |tup vs=>
   dsimp only at q;cases ek:cn ks with
   |none=>rw[ek]at q;cases q
   |some B=>
    rw[ek]at q;dsimp only at q;split at q
    .rename_i c;cases q;obtain⟨ax,xs,rfl,hq,rp⟩:=RP.mono Z p1;obtain⟨ay,ys,rfl,ta,rq⟩:=G;cases (show u=Value.ref ax from ru);cases (show u2=Value.ref ay from ru2);obtain⟨z1,T,n1,rx,O,ex⟩:=E.lstM hq.2;obtain⟨i,ry,V,hzy⟩:=E.tuple ta.sq;have exs:=ie ek rp;subst exs;have j:B.length≤ys.length:=by rw[<- rq.length];exact c.2.2
     obtain⟨za,zk⟩:=vU (g:=X.prog) (w:=X.w) rx ry j;have hl2:B.length≤i.length:=by rw[<- ry.length];exact j
     obtain⟨zf1,zf2⟩:=lm (xs:=B) (ys:=ys) j;obtain⟨P,_⟩:=lm (xs:=B) (ys:=i) hl2;have M:(B.zip i).length=T.toArray.size:=by have:=congrArg List.length P;rw[a9]at this;rw[this,List.size_toArray,<- O,a9]
     have hkz:(B.zip i).length≤sizeLine:=by rw[M,List.size_toArray,<- O];exact z1
     have N:D.heap.IsList ax T.toArray:=⟨_,ex,rfl,n1,rfl⟩;refine uE N V λh i1 i2 TI TO z k0 a1 a2 a3 a4 a5 b1 b2 b3 b4 b5=>j4 ?_;refine pf (t:=bJ X.prog X.w) (s:={ D with heap:=h }) (x:=D.heap) hh k0 N V a1 a2 a3 a4 a5 b1 b2 b3 b4 b5 (by simpa using za) (by rw[P];exact c.1) hkz M λh'' t' k1 dd=>?_;have g:D.heap.objs.size≤h.objs.size:=iq (lh a1 (k_ a2 (k_ a3 (k_ a4 (k_ a5 (Heap.lt_size b5))))));have hf:A h.objs.size=none:=E.hok.fresh g;have hsm:(h.objs.size == sysModules)=false:=by have:=E.big;simp only[j9];exact cE (cj this g)
     have hkv:(B.zip ys).length≤sizeLine:=by have e1:=congrArg List.length zf1;have e2:=congrArg List.length P;rw[a9]at e1 e2;lia
     have I3:=E.laid (a:=h.objs.size) (o:=.dK (B.zip ys)) (t':=t') k1 g ⟨hkv,hsm,_,zk,dd⟩;refine⟨.ref h.objs.size,_,I3,rfl,k (.ref h.objs.size) n (C++[h.objs.size]) _ (W.trans (Z.trans (gh hf))) (r2.own hf ⟨_,aJ,zf1,?_⟩) ⟨h.objs.size,rfl,?_⟩⟩
     .rw [zf2,List.map_take];exact(dm.mono (gh hf) (dm.ofP rq)).take _
     .rw [<- r2.len,fB (Nat.le_refl _)];simp
    .cases q
  |_=>cases q
 |_=>cases y<;>cases q
end
end Ev
namespace Ev
open PySem PySem.Spec PyProof.Rows L2
def pureOf(g:GF)(ps:List P):Option P:=match g (ps.map .p) [] with
 |some (d,S)=>(toP 9 d S).map (·.1)
 |none=>none
noncomputable def cL(p n:Nat)(b:ES):GF:=λs S=>if s.length=p then match b (s.map some++List.replicate (n-s.length) none) S with
 |some (.rt d,_,h)=>some (d,h)
 |some (.nx,_,h)=>some (.p .non,h)
 |_=>none else none
variable{K:FG}{F:Aa}{H:Hp}
theorem Rel.nil(f:∀a,F a->H a≠none):Rel K F H [] []:=⟨rfl,by simp,by simp,by simp,by simp,f⟩
theorem nC(h:IH K (pureOf g) A H s b):oO K g A H s b:=by
 obtain⟨F,n,d,t,r,q,k⟩:=h;unfold pureOf at q;cases e:g (n.map .p) [] with
 |none=>rw[e]at q;cases q
 |some z=>
  obtain⟨a,S⟩:=z;rw[e]at q;dsimp only at q;cases x:toP 9 a S with
  |none=>rw[x]at q;cases q
  |some y=>obtain⟨p,J⟩:=y;rw[x]at q;cases q;refine⟨F,[],n.map .p,[],a,S,.nil t,dm.ofP r,e,λv o P c j w i=>?_⟩;obtain⟨f,l,u,_,m⟩:=nB 9 x w i;exact k v f c ((j.trans l).toGrow u.ft) m
theorem FnOk.pure(G:FnOk s w K b base qc k f d ps (oO K g)):FnOk s w K b base qc k f d ps (IH K (pureOf g)):=
 FnOk.imp G λ_ _ _ _ h=>nC h
theorem dm.toSt(r:dm K F H m s k):RL K F H m (L2.start N k) (s.map some++List.replicate (N.length-s.length) none):=by
 have l:=r.length;refine⟨by unfold L2.start;simp[l],λi d e=>?_⟩;by_cases h:i < s.length
 .rw [List.getElem?_append_left (by simpa using h),List.getElem?_map]at e;cases q:s[i]? with
  |none=>rw[q]at e;cases e
  |some v=>rw[q]at e;cases e;obtain⟨x,a,p⟩:=r.get q;refine⟨x,?_,p⟩;unfold L2.start;rw[List.getElem?_append_left (by simpa[<- l] using h),List.getElem?_map,a];rfl
 .rw [fB (by simpa using h),qL]at e;split at e<;>cases e
theorem EZ{P:Program}{w:World}{K:FG}{i:SV}{base:Heap}{x u:Str}{st:Stmt}{f:Addr}{p:FuncData}{N ps:LS}{k:Nat}{b:ES}(F:Fun K x u st f p)(S:FnScope N ps (aV st))
  (G:∀(c:Value) (A:Around) (o:List Env) (s:Shared) (H:Hp) (E:XK),Room k (A.deeper (envOfC u (aV st) s.heap.objs.size f c)) ->
   mJ (uu qc P w K i base N u (aV st) f c A o s H E).nox (dQ st) (kx K b)):FnOk P w K i base qc (k+1) f p ps (oO K (cL ps.length N.length b)):=by
 refine F.ok S (λM H Q E h=>?_) (λc A o s H M Q E I h=>⟨_,G c A o s H E I,?_⟩)
 .obtain⟨F,m,a,S,d,C,y,r,q,k⟩:=h;rw[<- r.length];unfold cL at q;split at q
  .assumption
  .cases q
 .obtain⟨F,m,a,S,d,C,y,r,q,k⟩:=h;unfold cL at q;split at q
  .cases e:b (a.map some++List.replicate (N.length-a.length) none) S with
   |none=>rw[e]at q;cases q
   |some z=>
    obtain⟨l,L,D⟩:=z;rw[e]at q;refine⟨F,m,_,S,l,L,D,y,r.toSt,e,λO n g t B j T=>?_⟩;cases l with
    |nx=>cases q;exact k .non n g t B j rfl
    |bk=>cases q
    |ct=>cases q
    |rt R=>intro v J;cases q;exact k v n g t B j J
  .cases q
theorem Ag:FnOk g w K c base qc k f b ps (oO K λ_ _=>none):=by
 have n:∀v H Q E,¬oO K (λ_ _=>none) v H Q E:=λv H Q E h=>by obtain⟨F,m,e,S,d,x,_,_,q,_⟩:=h;cases q
 exact⟨λv H Q E h=>absurd h (n v H Q E),λA o s H a u v Q E _ _ _ _ h=>absurd h (n v H Q E)⟩
structure Tr where
 v:Option EV:=none
 e:Option EE:=none
 b:Option EB:=none
 w:Option EB:=none
def Tr.ofV(f:Option EV):Tr:=⟨f,f.map eV,f.map λg=>bT (eV g),f.map bV⟩
def Tr.ofC(f:Option EV):Tr:=⟨f,f.map eV,f.map bV,f.map bV⟩
def Tr.ofE(f:Option EE):Tr:=⟨f.map vE,f,f.map bT,f.map λg=>bV (vE g)⟩
def Tr.ofB(b w:Option EB):Tr:=⟨w.map vB,w.map λg=>eV (vB g),b,w⟩
structure Cn where
 N:LS
 own:LS
 deep:LS
 refs:LS
 ks:List (Str×NameKind)
 F:Str->Option GF
 G:Str->Option P
 A:Str->Str->Bool
 M:Str->Str->Option GF
 I:Str->Option GF
noncomputable def kM:LS->Str->Option Nat
 | [],_=>none
 |y::r,x=>if y=x then some 0 else (kM r x).map (·+1)
set_option tactic.hygienic true in
theorem nR:∀{N:LS}{x:Str}{i:Nat},kM N x=some i->N[i]? = some x
 | [],_,_,h=>by cases h
 |y::r,x,i,h=>by
  unfold kM at h;split at h
  .rename_i e;cases h;simp[e]
  .cases q:kM r x with
   |none=>rw[q]at h;cases h
   |some j=>rw[q]at h;cases h;simpa using nR q
theorem l7:∀{N:LS}{x:Str}{i:Nat},N.Nodup->N[i]? = some x->kM N x=some i
 | [],_,_,_,h=>by simp at h
 |y::r,x,0,_,h=>by
  have:y=x:=by simpa using h
  unfold kM;rw[if_pos this]
 |y::r,x,i+1,d,h=>by
  have a:r[i]? = some x:=by simpa using h
  have n:¬y=x:=λe=>by subst e;exact(List.nodup_cons.mp d).1 (bH a)
  unfold kM;rw[if_neg n,l7 (List.nodup_cons.mp d).2 a];rfl
noncomputable def dX(s:List (Str×NameKind))(x:Str)(l:List NameKind):Bool:=match s.lookup x with
 |some k=>l.contains k
 |none=>false
noncomputable def iI(x:Str):Bool:=!(x == ("__debug__":Str)) && !(x == ("__classdict__":Str))
def LJ:Operator->Option (P->P->Option P)
 | .Add=>some aw
 | .Sub=>some sD
 | .Mult=>some dg
 | .FloorDiv=>some aE
 | .Mod=>some aZ
 | .Pow=>some Cd
 |_=>none
def Ik:CmpOp->Option (P->P->Option P)
 | .Lt=>some AN
 | .LtE=>some Ic
 | .Gt=>some FM
 | .GtE=>some Ie
 |_=>none
def Ij:CmpOp->Option (D->D->aD->Option P)
 | .Eq=>some dC
 | .NotEq=>some ma
 | .In=>some C0
 | .NotIn=>some n2
 | .Is=>some pS
 | .IsNot=>some c_
 |_=>none
def oM:List (Option EV)->Option gf
 | []=>some aO
 |a::r=>a.bind λf=>(oM r).map λg=>aN f g
def xi:List (Option EE)->Option oJ
 | []=>some ba
 |a::r=>a.bind λf=>(xi r).map λg=>ac f g
def sX(o:BoolOp):List (Option EB)->Option EB
 | []=>none
 | [a]=>a
 |a::r=>a.bind λf=>(sX o r).map λg=>match o with | .And=>fV f g | .Or=>ya f g
def Gn(o:Option (Option EV)):Option EO:=match o with
 |none=>some gG
 |some a=>a.map gc
def AA(f:Str):Option (List P->Option P):=
 if f=("int":Str) then some bU else if f=("list":Str) then some lU else if f=("tuple":Str) then some bD else if f=("abs":Str) then some mn else none
noncomputable def Cp:LS:=["len","isinstance","int","bool","tuple","list","str","max","min","dict","range","abs","enumerate","sorted","all","any","sum","set","zip"]
noncomputable def pG(a s:List (Str×NameKind)):List (Str×NameKind):=a.map λ(n,k)=>if (k == .free && s.lookup n == some .cell) then (n,.cell) else (n,k)
def vP(u:Cn)(j:Scope)(Y:LS)(Q:List Nat)(n:Nat):Bool:=
 decide (j.kind=.function) && j.names.all (λx=>x.2 != .cell) && j.names.all (λx=>x.2 != .local ||j.names.lookup x.1 == some .local)
  && j.names.all (λx=>x.2 != .free ||(j.names.lookup x.1 == some .free && (u.ks.lookup x.1 == some .cell ||u.ks.lookup x.1 == some .free)))
  && decide (u.N=Y.take u.N.length) && decide (Y.length=u.N.length+n)
  && j.names.all (λx=>x.2 != .local ||match kM u.N x.1 with|some i=>Q.contains i|none=>true)
def tW(u:Cn)(f g:Str):Bool:=decide (f=g) && dX u.ks f [.globalImplicit]
noncomputable def zR:Expr->Bool
 | .Tuple ..=>true
 |_=>false
variable{p:Type}
noncomputable def zw:List p->Option p
 | [a]=>some a
 |_=>none
noncomputable def DA:List p->Option (p×p)
 | [a,b]=>some (a,b)
 |_=>none
theorem rc(h:zw l=some a):l=[a]:=by
 unfold zw at h;split at h
 .cases h;rfl
 .cases h
theorem A5(h:DA l=some (a,b)):l=[a,b]:=by
 unfold DA at h;split at h
 .cases h;rfl
 .cases h
noncomputable def Kv:Expr->Option Str
 | .Name x _=>some x
 |_=>none
variable{e:Expr}{x:Str}
theorem En(h:Kv e=some x):∃p,e=.Name x p:=by
 unfold Kv at h;split at h
 .cases h;exact⟨_,rfl⟩
 .cases h
def p0:Expr->Option (Str×Ab)
 | .Call f a k _=>if k.isEmpty=true then (Kv f).map λr=>(r,a) else none
 |_=>none
variable{O:Ab}
set_option tactic.hygienic true in
theorem kY(h:p0 e=some (r,O)):∃p c,e=.Call (.Name r p) O [] c:=by
 unfold p0 at h;split at h
 .split at h
  .rename_i k;obtain⟨s,x,a⟩:=j_.mp h;obtain⟨p,rfl⟩:=En x;cases a;rw[mS.mp k];exact⟨_,_,rfl⟩
  .cases h
 .cases h
def CL(u:Cn)(f:Str)(a:Expr):Option Expr:=(p0 a).bind λz=>(zw z.2).bind λb=>if (decide (f=("list":Str)) && tW u z.1 "range")=true then some b else none
def yn(u:Cn)(f:Str)(a:Expr):Option (Expr×Expr):=(p0 a).bind λz=>(DA z.2).bind λb=>if (decide (f=("dict":Str)) && tW u z.1 "zip")=true then some b else none
noncomputable def KG:Expr->Bool
 | .Set ..=>true
 |_=>false
def yA(u:Cn)(T:Expr->Tr)(E e:Expr):Option gf:=match p0 e with
 |some z=>if tW u z.1 "range"=true then (zw z.2).bind λa=>(T a).v.map gL
  else if tW u z.1 "enumerate"=true then (zw z.2).bind λa=>if zR E=true then (T a).v.map rJ else none
  else (T e).v.map gR
 |none=>if KG e=true then none else (T e).v.map gR
def A9(N:LS)(s:List (Str×NameKind))(k:List NameKind):Expr->Option iU
 | .Name x _=>if dX s x k=true then (kM N x).map ag else none
 |_=>none
def yz(N:LS)(s:List (Str×NameKind))(k:List NameKind):Ab->Option (List iU)
 | []=>some []
 |e::r=>(A9 N s k e).bind λg=>(yz N s k r).map λh=>g::h
def yx(N:LS)(s:List (Str×NameKind))(k:List NameKind):Expr->Option iU
 | .Tuple h _ _=>(yz N s k h).map aP
 |e=>A9 N s k e
noncomputable def Hl:Expr->LS
 | .Name x _=>[x]
 |_=>[]
def gH:Expr->LS
 | .Tuple s _ _=>s.flatMap Hl
 |e=>Hl e
noncomputable def mH(N:LS):LS->LS
 | []=>[]
 |t::r=>if (N.contains t ||(mH N r).contains t)=true then mH N r else t::mH N r
def K0(N:LS)(Q:LS):List Nat:=Q.filterMap λt=>kM N t
def nA(u:Cn)(T:Cn->Expr->Tr)(l E iter:Expr)(i:Ab)(j:Scope):Option EV:=
 if (vP u j (u.N++mH u.N (gH E)) (K0 u.N (gH E)) (mH u.N (gH E)).length && decide (u.N++mH u.N (gH E)).Nodup)=true then
  (yA u (T u) E iter).bind λt=>(yx (u.N++mH u.N (gH E)) (pG j.names u.ks) [.local] E).bind λg=>
   (match i with | []=>some gQ | [c]=>(T ⟨u.N++mH u.N (gH E),u.own.filter (λx=>!(gH E).contains x),[],u.refs,pG j.names u.ks,u.F,u.G,u.A,u.M,u.I⟩ c).b|_=>none).bind λc=>
   (T ⟨u.N++mH u.N (gH E),u.own.filter (λx=>!(gH E).contains x),[],u.refs,pG j.names u.ks,u.F,u.G,u.A,u.M,u.I⟩ l).v.map λe=>aU t (K0 u.N (gH E)) (mH u.N (gH E)).length g c e
 else none
noncomputable def nV(u:Cn):Nat->Expr->Bool
 |0,_=>false
 |_,.Name x _=>u.own.contains x
 |n+1,.Subscript a _ _=>nV u n a
 |n+1,.Attribute a _ _=>nV u n a
 |n+1,.Call (.Attribute o m _) (_::_) [] _=>decide (m=("setdefault":Str)) && nV u n o
 |_,_=>false
noncomputable def tf:Expr->Option (Ab)
 | .Tuple e _ _=>some e
 |_=>none
noncomputable def yQ:Ab->Option Expr
 | [a,.List [] _]=>some a
 |_=>none
noncomputable def xL:Expr->Bool
 | .Name ..=>true
 | .Attribute ..=>true
 | .Subscript ..=>true
 |_=>false
def Fv(u:Cn)(o:Option EE)(os:Expr)(m:Str)(O:List (Option EE))(p c:Pos):Tr:=
 if (xL os && (p.endLine == c.line) && decide (O.length < 29))=true then .ofE (o.bind λx=>(xi O).map λa=>dB u.M x m a) else {}
def Fx(u:Cn)(o:Expr)(m:Str)(n:Str)(a c:Pos):Bool:=decide (m=n) && nV u 4 o && (a.endLine == c.line)
def tr(u:Cn):Nat->Expr->Tr
 |0,_=>{}
 |n+1,e=>match e with
  | .Constant c _ _=>match c with
   | .int i=>.ofV (some (vC (.int i)))
   | .bool i=>.ofV (some (vC (.bl i)))
   | .none=>.ofV (some (vC .non))
   | .str i=>.ofV (some (vC (.str i)))
   |_=>{}
  | .Name x _=>if (dX u.ks x [.local,.cell,.free] && iI x)=true then .ofE ((kM u.N x).map aa) else
    if (dX u.ks x [.globalImplicit] && iI x)=true then .ofV ((u.G x).bind λv=>if zU v=true then none else some (vC v)) else {}
  | .BinOp a p b _=>.ofV ((LJ p).bind λg=>(tr u n a).v.bind λx=>(tr u n b).v.map λy=>ab g x y)
  | .UnaryOp p a _=>match p with
   | .USub=>.ofV ((tr u n a).v.map (Dw vK))
   | .Not=>.ofB ((tr u n a).b.map mI) ((tr u n a).w.map mI)
   |_=>{}
  | .BoolOp p k _=>.ofB (sX p (k.map λx=>(tr u n x).b)) (sX p (k.map λx=>(tr u n x).w))
  | .Compare a H K _=>match H,K with
   | [p],[b]=>.ofC (match Ik p with
    |some g=>(tr u n a).v.bind λx=>(tr u n b).v.map λy=>ab g x y
    |none=>(Ij p).bind λg=>(tr u n a).e.bind λx=>(tr u n b).e.map λy=>az g x y)
   | [p,d],[b,c]=>.ofC ((Ik p).bind λg=>(Ik d).bind λA=>(tr u n a).v.bind λx=>(tr u n b).v.bind λy=>(tr u n c).v.map λz=>lu g A x y z)
   |_,_=>{}
  | .IfExp c a b _=>{ Tr.ofV ((tr u n c).b.bind λq=>(tr u n a).v.bind λx=>(tr u n b).v.map λy=>Cw q x y) with b:=none }
  | .Tuple k _ _=>.ofV ((oM (k.map λx=>(tr u n x).v)).map aA)
  | .List k _=>.ofV ((oM (k.map λx=>(tr u n x).v)).map aQ)
  | .Dict C D _=>match C,D with
   | [],[]=>{ e:=some mh,v:=some (vE mh) }
   |_,_=>{}
  | .Subscript a i _=>match i with
   | .Slice lo F st _=>(match st with
    |none=>.ofV ((tr u n a).v.bind λx=>(Gn (lo.map λy=>(tr u n y).v)).bind λy=>(Gn (F.map λz=>(tr u n z).v)).map λz=>lr x y z)
    |some c=>.ofV ((tr u n a).v.bind λx=>(Gn (lo.map λy=>(tr u n y).v)).bind λy=>(Gn (F.map λz=>(tr u n z).v)).bind λz=>(tr u n c).v.map λc=>A1 x y z (gc c)))
   | _=>if nV u 4 a=true then (match tf i with
    |some k=>.ofE ((tr u n a).e.bind λx=>(oM (k.map λz=>(tr u n z).v)).map λy=>vD x y)
    |none=>.ofE ((tr u n a).e.bind λx=>(tr u n i).v.map λy=>uP x y)) else .ofV ((tr u n a).v.bind λx=>(tr u n i).v.map λy=>ab al x y)
  | .Call P r w s=>match w with
   |_::_=>{}
   | []=>match P with
   | .Name f _=>if (dX u.ks f [.globalImplicit] && iI f)=true then
    match u.I f with
    |some g=>match r with
     | []=>{}
     |_=>.ofE ((xi (r.map λx=>(tr u n x).e)).map λa=>pT g f a)
    |none=>match u.F f with
    |some g=>match r with
     | []=>{}
     |_=>if u.refs.contains f=true then .ofV ((xi (r.map λx=>(tr u n x).e)).map λa=>cF g a) else .ofV ((oM (r.map λx=>(tr u n x).v)).map λa=>ae (pureOf g) a)
    |none=>match r with
     | []=>{}
     | [a]=>if f=("len":Str) then .ofV ((tr u n a).e.map dA) else if f=("sorted":Str) then .ofV ((tr u n a).e.map pB) else match CL u f a with
      |some b=>.ofV ((tr u n b).v.map Ft)
      |none=>match yn u f a with
       |some z=>.ofE ((tr u n z.1).v.bind λx=>(tr u n z.2).v.map λy=>rW x y)
       |none=>.ofV ((AA f).bind λg=>(oM [(tr u n a).v]).map λx=>ae g x)
     |_=>{}
   else {}
   | .Attribute o m h=>match r with
    | [a]=>if Fx u o m "append" h s=true then .ofE ((tr u n o).e.bind λx=>(tr u n a).e.map λy=>bg x y) else
    if Fx u o m "extend" h s=true then .ofE ((tr u n o).e.bind λx=>(tr u n a).v.map λy=>dP x y) else
    if (decide (m=("index":Str)) && xL o && (h.endLine == s.line))=true then .ofV ((tr u n o).v.bind λx=>(tr u n a).v.map λy=>oK x y) else
    (match tf a with
    |some k=>if Fx u o m "get" h s=true then .ofE ((tr u n o).e.bind λx=>(oM (k.map λz=>(tr u n z).v)).map λy=>uf x y) else Fv u (tr u n o).e o m [(tr u n a).e] h s
    |none=>Fv u (tr u n o).e o m [(tr u n a).e] h s)
    | args=>if (decide (m=("get":Str)) && xL o && (h.endLine == s.line))=true then (match r with
      | [a,b]=>.ofV ((tr u n o).v.bind λx=>(tr u n a).v.bind λy=>(tr u n b).v.map λz=>v0 x y z)
      |_=>{}) else match yQ r with
     |some a=>if Fx u o m "setdefault" h s=true then .ofE ((tr u n o).e.bind λx=>(tr u n a).v.map λy=>m_ x y (cv aO)) else Fv u (tr u n o).e o m (r.map λx=>(tr u n x).e) h s
     |none=>Fv u (tr u n o).e o m (r.map λx=>(tr u n x).e) h s
   |_=>{}
  | .Attribute o f _=>if xL o=true then .ofE ((tr u n o).e.map λx=>dM u.A x f) else {}
  | .ListComp l B j _=>match B with
   | [⟨E,iter,t,0⟩]=>.ofV (nA u (λS x=>tr S n x) l E iter t j)
   |_=>{}
  |_=>{}
def Go(u:Cn)(n _k:Nat)(e:Expr):Option EE:=match p0 e with
 |some z=>if (dX u.ks z.1 [.globalImplicit] && iI z.1 && !z.2.isEmpty && u.deep.contains z.1)=true then
   match u.F z.1 with
   |some g=>(xi (z.2.map λx=>(tr u n x).e)).map λa=>f6 g a
   |none=>(tr u n e).e
  else (tr u n e).e
 |none=>(tr u n e).e
structure XOk(Γ:Cn)(X:Cx):Prop where
 hN:X.N=Γ.N
 nd:X.N.Nodup
 ks:X.env.scope.names=Γ.ks
 kd:X.env.scope.kind=.function
 calm:X.calm=true
 hu:X.A.units+64 < cLine
 fns:∀x g,Γ.F x=some g->∃k f fd ps,FnOk X.prog X.w X.K X.mg X.base qc k f fd ps (oO X.K g)/\Room k X.A/\X.mg x=some (.ref f)/\PySem.W.keepIn X.K (.ref f)=true/\Binds X.K fd ps []
 blt:∀x ∈ Cp,X.mg x=none
 glb:∀x v,Γ.G x=some v->k8 X.w X.K X.mg x v
 attrs:Jt X.K Γ.A
 meths:Jq X Γ.M
 mks:∀c g,Γ.I c=some g->∃C k f fd ps,iZ X.K c C/\X.mg c=some (.ref C)/\Mk X.K C f/\FnOk X.prog X.w X.K X.mg X.base qc k f fd ps (oO X.K g)/\Room (k+1) X.A/\Binds X.K fd ps []
structure Good(X:Cx)(ex:Expr)(t:Tr):Prop where
 v:∀f,t.v=some f->PE X ex (tV X.K f)
 e:∀f,t.e=some f->PE X ex (tE X.K f)
 b:∀f,t.b=some f->PT X ex (tQ X.K f)
 w:∀f,t.w=some f->PE X ex (tV X.K (vB f))
section
variable{X:Cx}{e:Expr}
theorem Good.no:Good X e {}:=⟨λ_ h=>(by cases h),λ_ h=>(by cases h),λ_ h=>(by cases h),λ_ h=>(by cases h)⟩
def AK(e:Expr):Prop:=∀B w,isTrue e B w=(do let v <- w;standAt e.pos;holding [v] (truthy v))
theorem Good.ofV{t:Option EV}(h:∀f,t=some f->PE X e (tV X.K f))(p:AK e):Good X e (.ofV t) where
 v:=h
 e:=λf q=>by
  cases t with
  |none=>cases q
  |some g=>cases q;exact Fs (h _ rfl)
 b:=λf q=>by
  cases t with
  |none=>cases q
  |some g=>cases q;exact yT (Fs (h _ rfl)) (p _)
 w:=λf q=>by
  cases t with
  |none=>cases q
  |some g=>cases q;exact vV (h _ rfl)
theorem Good.ofC{t:Option EV}(h:∀f,t=some f->PE X e (tV X.K f))(x:∀f,t=some f->PT X e (tQ X.K (bV f))):Good X e (.ofC t) where
 v:=h
 e:=λf q=>by
  cases t with
  |none=>cases q
  |some g=>cases q;exact Fs (h _ rfl)
 b:=λf q=>by
  cases t with
  |none=>cases q
  |some g=>cases q;exact x _ rfl
 w:=λf q=>by
  cases t with
  |none=>cases q
  |some g=>cases q;exact vV (h _ rfl)
theorem Good.ofE{t:Option EE}(h:∀f,t=some f->PE X e (tE X.K f))(p:AK e):Good X e (.ofE t) where
 v:=λf q=>by
  cases t with
  |none=>cases q
  |some g=>cases q;exact JF (h _ rfl)
 e:=h
 b:=λf q=>by
  cases t with
  |none=>cases q
  |some g=>cases q;exact yT (h _ rfl) (p _)
 w:=λf q=>by
  cases t with
  |none=>cases q
  |some g=>cases q;exact vV (JF (h _ rfl))
theorem Good.ofB{b w:Option EB}(h:∀f,b=some f->PT X e (tQ X.K f))(hw:∀f,w=some f->PE X e (tV X.K (vB f))):Good X e (.ofB b w) where
 v:=λf q=>by
  cases w with
  |none=>cases q
  |some g=>cases q;exact hw _ rfl
 e:=λf q=>by
  cases w with
  |none=>cases q
  |some g=>cases q;exact Fs (hw _ rfl)
 b:=h
 w:=hw
end
theorem ak{p e:Type}{x:Option p}{f:p->Option e}{r:e}(h:x.bind f=some r):∃a,x=some a/\f a=some r:=by
 cases x with
 |none=>cases h
 |some a=>exact⟨a,rfl,h⟩
theorem ar{p e:Type}{x:Option p}{f:p->e}{r:e}(h:x.map f=some r):∃a,x=some a/\r=f a:=by
 cases x with
 |none=>cases h
 |some a=>cases h;exact⟨a,rfl,rfl⟩
def d9(e:Expr):Prop:=∀s B,starEach (e::s) B=(false,eval e B)::starEach s B
variable{u:Cn}{n:Nat}
theorem bE(h:(tr u n e).v.isSome=true\/(tr u n e).e.isSome=true):d9 e:=by
 intro s B;cases n with
 |zero=>rcases h with h|h<;>cases h
 |succ n=>cases e<;>first|rfl|(rcases h with h|h<;>cases h)
theorem nK(h:(tr u n e).v.isSome=true):k7 e:=by
 intro o i;cases n with
 |zero=>cases h
 |succ n=>cases e<;>first|rfl|cases h
variable{B:Env}{t:Pos}
theorem iT(h:∀e ∈ s,d9 e):(backTo t (starEach s B)).any (·.1)=false:=by
 induction s with
 |nil=>rfl
 |cons e s i=>
  rw[h e List.mem_cons_self s B];have:=i λx a=>h x (aS _ a)
  unfold backTo at this ⊢;rw[List.map_cons,gC,this];rfl
section
variable{u:Cn}{X:Cx}(h:XOk u X)
include h
theorem XOk.gl(q:dX u.ks x [.globalImplicit]=true):Gl X x:=by
 unfold Gl Env.kindOf;rw[h.ks];unfold dX at q;cases e:u.ks.lookup x with
 |none=>rw[e]at q;cases q
 |some k=>rw[e]at q;cases k<;>first|rfl|cases q
theorem XOk.vis(q:dX u.ks x [.local,.cell,.free]=true):Fk X.env.scope x:=by
 unfold Fk;rw[h.ks];unfold dX at q;cases e:u.ks.lookup x with
 |none=>rw[e]at q;cases q
 |some k=>rw[e]at q;cases k<;>first|exact .inl rfl|exact .inr (.inl rfl)|exact .inr (.inr rfl)|cases q
theorem XOk.loc(q:dX u.ks x [.local,.cell]=true):L2.Loc X.env.scope x:=by
 unfold L2.Loc;rw[h.ks];unfold dX at q;cases e:u.ks.lookup x with
 |none=>rw[e]at q;cases q
 |some k=>rw[e]at q;cases k<;>first|exact .inl rfl|exact .inr rfl|cases q
theorem XOk.local(q:dX u.ks x [.local]=true):X.env.scope.names.lookup x=some .local:=by
 rw[h.ks];unfold dX at q;cases e:u.ks.lookup x with
 |none=>rw[e]at q;cases q
 |some k=>rw[e]at q;cases k<;>first|rfl|cases q
omit h in
theorem fD(q:iI x=true):(x == ("__debug__":Str))=false/\(x == ("__classdict__":Str))=false:=by unfold iI at q;rw[Bool.and_eq_true]at q;exact⟨by simpa using q.1,by simpa using q.2⟩
theorem XOk.get(q:kM u.N x=some i):X.N[i]? = some x:=by rw[h.hN];exact nR q
omit h in
theorem gg{u:Cn}{n:Nat}:∀{s:Ab}{k:gf},(∀e ∈ s,Good X e (tr u n e))->oM (s.map λx=>(tr u n x).v)=some k->PA X s (oN X.K k)/\∀e ∈ s,d9 e
 | [],k,_,q=>by cases q;exact⟨Fj,λ_ z=>by cases z⟩
 |e::s,k,g,q=>by
  obtain⟨f,b,p⟩:=ak q;obtain⟨r,v,rfl⟩:=ar p;obtain⟨m,t⟩:=gg (λx a=>g x (aS _ a)) v;have b:(tr u n e).v=some f:=b;have c:d9 e:=bE (.inl (by rw[b];rfl));refine⟨Dc ((g e List.mem_cons_self).v f b) m (c _ _),λx a=>?_⟩;rcases bq.mp a with a|a
  .subst a;exact c
  .exact t x a
omit h in
theorem kC{u:Cn}{n:Nat}:∀{s:Ab}{k:oJ},(∀e ∈ s,Good X e (tr u n e))->xi (s.map λx=>(tr u n x).e)=some k->PA X s (xj X.K k)/\∀e ∈ s,d9 e
 | [],k,_,q=>by cases q;exact⟨HZ,λ_ z=>by cases z⟩
 |e::s,k,g,q=>by
  obtain⟨f,b,p⟩:=ak q;obtain⟨r,v,rfl⟩:=ar p;obtain⟨m,t⟩:=kC (λx a=>g x (aS _ a)) v;have b:(tr u n e).e=some f:=b;have c:d9 e:=bE (.inr (by rw[b];rfl));refine⟨E8 ((g e List.mem_cons_self).e f b) m (c _ _),λx a=>?_⟩;rcases bq.mp a with a|a
  .subst a;exact c
  .exact t x a
omit h in
theorem sV{o:BoolOp}{t:Pos}{u:Cn}{n:Nat}:∀{s:Ab}{f:EB},(∀e ∈ s,Good X e (tr u n e))->sX o (s.map λx=>(tr u n x).b)=some f->PW X (.BoolOp o s t) (tQ X.K f)
 | [],f,_,q=>by cases q
 | [a],f,g,q=>by
  cases o with
  |And=>exact F5 ((g a List.mem_cons_self).b f q)
  |Or=>exact JA ((g a List.mem_cons_self).b f q)
 |a::b::s,f,g,q=>by
  obtain⟨x,k,m⟩:=ak q;obtain⟨r,p,rfl⟩:=ar m;have i:=sV (s:=b::s) (t:=t) (λx c=>g x (aS _ c)) p;cases o with
  |And=>exact JD ((g a List.mem_cons_self).b x k) i
  |Or=>exact LR ((g a List.mem_cons_self).b x k) i
omit h in
theorem sW{o:BoolOp}{t:Pos}{u:Cn}{n:Nat}:∀{s:Ab}{f:EB},(∀e ∈ s,Good X e (tr u n e))->sX o (s.map λx=>(tr u n x).w)=some f->PE X (.BoolOp o s t) (tV X.K (vB f))
 | [],f,_,q=>by cases q
 | [a],f,g,q=>Ge ((g a List.mem_cons_self).w f q)
 |a::b::s,f,g,q=>by
  obtain⟨x,k,m⟩:=ak q;obtain⟨r,p,rfl⟩:=ar m;have i:=sW (s:=b::s) (t:=t) (λx c=>g x (aS _ c)) p;cases o with
  |And=>exact JU ((g a List.mem_cons_self).w x k) i
  |Or=>exact LU ((g a List.mem_cons_self).w x k) i
omit h in
theorem qO{u:Cn}{n:Nat}{o:Option Expr}{f:EO}(g:∀e,Good X e (tr u n e))(q:Gn (o.map λy=>(tr u n y).v)=some f):PO X o (tO X.K f):=by
 cases o with
 |none=>cases q;exact El
 |some e=>obtain⟨x,a,rfl⟩:=ar (show((tr u n e).v).map gc=some f from q);exact zy ((g e).v x a)
theorem Fe(q:LJ s=some g):mK X (binaryOp s) g:=by cases s<;>first|(cases q;exact Eh)|(cases q;exact G_)|(cases q;exact Eg)|(cases q;exact BI)|(cases q;exact Hc)|(cases q;exact G')|cases q
omit h in
theorem lR(q:Ik s=some g):mK X (compareOp s) g:=by cases s<;>first|(cases q;exact Kn)|(cases q;exact Ko)|(cases q;exact Kq)|(cases q;exact Kr)|cases q
theorem wU(q:Ij s=some g):ip X (compareOp s) (rE X.K g):=by cases s<;>first|(cases q;exact Hg h.hu)|(cases q;exact Ha h.hu)|(cases q;exact He h.hu)|(cases q;exact zt h.hu)|(cases q;exact Hd)|(cases q;exact zu)|cases q
omit h in
theorem ux(b:Expr)(q:Ik s=some g):behindInMarks s b=false:=by cases s<;>first|exact Em b|cases q
omit h in
theorem wu(q:(tr u n b).e.isSome=true):behindInMarks s b=false:=by
 cases n with
 |zero=>cases q
 |succ n=>cases b<;>first|rfl|cases q
omit h in
theorem tM(q:(tr u n c).v.isSome=true):lastMarks [k,s] [b,c]=false:=by
 cases n with
 |zero=>cases q
 |succ n=>cases c<;>first|rfl|cases q
theorem Cj(m:u.F f=some g)(r:dX u.ks f [.globalImplicit]=true)(v:iI f=true)(x:PA X (a::O) (oN X.K s))(n:∀e ∈ a::O,d9 e) :
  PE X (.Call (.Name f U) (a::O) [] t) (tV X.K (ae (pureOf g) s)):=by
 obtain⟨k,w,i,j,G,d,q,p,b⟩:=h.fns f g m;exact Gd (FnOk.pure G) d (h.gl r) q p b x (fD v).1 (n a List.mem_cons_self _ _) (iT λe c=>n e (aS _ c))
theorem uG(d:u.F f=some g)(m:dX u.ks f [.globalImplicit]=true)(q:iI f=true)(b:PA X (a::O) (xj X.K s))(n:∀e ∈ a::O,d9 e) :
  PE X (.Call (.Name f U) (a::O) [] t) (tV X.K (cF g s))/\PE X (.Call (.Name f U) (a::O) [] t) (tE X.K (f6 g s)):=by
 obtain⟨k,w,i,j,G,v,r,p,c⟩:=h.fns f g d;exact⟨AU G v (h.gl m) r p c b (fD q).1 (n a List.mem_cons_self _ _) (iT fun e x=>n e (aS _ x)),
  Dt G v (h.gl m) r p c b (fD q).1 (n a List.mem_cons_self _ _) (iT λe x=>n e (aS _ x))⟩
set_option tactic.hygienic true in
theorem Ff(x:AA f=some g)(k:dX u.ks f [.globalImplicit]=true)(n:PA X (a::O) (oN X.K c))(b:∀e ∈ a::O,d9 e) :
  PE X (.Call (.Name f U) (a::O) [] t) (tV X.K (ae g c)):=by
 have s:=b a List.mem_cons_self O X.env;have p:=iT (B:=X.env) (t:=t) λe s=>b e (aS _ s);unfold AA at x;split at x
 .rename_i e;subst e;cases x;exact Dl (h.gl k) (h.blt _ (by decide)) n s p
 split at x
 .rename_i e;subst e;cases x;exact Dk (h.gl k) (h.blt _ (by decide)) n s p
 split at x
 .rename_i e;subst e;cases x;exact AS (h.gl k) (h.blt _ (by decide)) n s p
 split at x
 .rename_i e;subst e;cases x;exact F6 (h.gl k) (h.blt _ (by decide)) n s p
 .cases x
omit h in
theorem m9(q:tW u f g=true):f=g/\dX u.ks f [.globalImplicit]=true:=by unfold tW at q;rw[Bool.and_eq_true]at q;exact⟨of_decide_eq_true q.1,q.2⟩
set_option tactic.hygienic true in
theorem CN{n:Nat}{E e:Expr}{f:gf}(g:∀x,Good X x (tr u n x))(q:yA u (λx=>tr u n x) E e=some f):PI X E e (tI X.K f):=by
 have plain:((tr u n e).v.map gR=some f)->PI X E e (tI X.K f):=λq=>by obtain⟨x,s,rfl⟩:=ar q;exact iS ((g e).v x s)
 unfold yA at q;split at q
 .rename_i z m;obtain⟨p,b⟩:=z;obtain⟨U,t,rfl⟩:=kY m;dsimp only at q;split at q
  .rename_i r;obtain⟨rfl,r⟩:=m9 r;obtain⟨a,k,q⟩:=ak q;cases rc k;obtain⟨x,s,rfl⟩:=ar q;exact Ml (h.gl r) (h.blt ("range":Str) (by decide)) ((g a).v x s) (bE (.inl (by rw[s];rfl)) _ _)
  .split at q
   .rename_i r;obtain⟨rfl,r⟩:=m9 r;obtain⟨a,k,q⟩:=ak q;cases rc k;split at q
    .rename_i c;obtain⟨x,s,rfl⟩:=ar q;cases E<;>first|(cases c;done)|skip
     exact iE (h.gl r) (h.blt ("enumerate":Str) (by decide)) ((g a).v x s) (bE (.inl (by rw[s];rfl)) _ _)
    .cases q
   .exact plain q
 .split at q
  .cases q
  .exact plain q
set_option tactic.hygienic true in
omit h in
theorem w_(q:yn u f a=some (b,c)):f="dict"/\∃r p x,a=.Call (.Name r p) [b,c] [] x/\tW u r "zip"=true:=by
 obtain⟨⟨r,O⟩,z,n⟩:=ak q;obtain⟨⟨m,t⟩,k,s⟩:=ak n;clear q n;obtain⟨p,x,rfl⟩:=kY z;cases A5 k;split at s
 .rename_i e;cases s;simp only[Bool.and_eq_true]at e;exact⟨of_decide_eq_true e.1,r,p,x,rfl,e.2⟩
 .cases s
set_option tactic.hygienic true in
omit h in
theorem zH(q:CL u f a=some b):f="list"/\∃r p c,a=.Call (.Name r p) [b] [] c/\tW u r "range"=true:=by
 obtain⟨⟨r,O⟩,z,s⟩:=ak q;obtain⟨m,k,e⟩:=ak s;clear q s;obtain⟨p,n,rfl⟩:=kY z;cases rc k;split at e
 .rename_i x;cases e;simp only[Bool.and_eq_true]at x;exact⟨of_decide_eq_true x.1,r,p,n,rfl,x.2⟩
 .cases e
omit h in
theorem tU(q:yA u T E e=some f)(B:Env)(x:Value):foldedSetIterable e B x=pure x:=by cases e<;>first|rfl|cases q
theorem AB(q:vP u j Y Q n=true):BlockOk X j Y Q n:=by
 unfold vP at q;simp only[Bool.and_eq_true]at q;obtain⟨⟨⟨⟨⟨⟨f,b⟩,c⟩,m⟩,r⟩,p⟩,v⟩:=q;have s:u.N=Y.take u.N.length:=of_decide_eq_true r;refine⟨of_decide_eq_true f,λx a=>?_,λx a l=>?_,λx a l=>?_,?_,?_,λx a l i k=>?_⟩
 .simpa using bj.mp b x a
 .have:=bj.mp c x a;rw[l]at this;simpa using this
 .have:=bj.mp m x a;rw[l]at this;have t:j.names.lookup x.1=some .free/\(u.ks.lookup x.1=some .cell\/u.ks.lookup x.1=some .free):=by simpa using this
  refine⟨t.1,?_⟩;unfold Env.kindOf;rw[h.ks];exact t.2
 .rw [h.hN];exact s
 .rw [h.hN];exact of_decide_eq_true p
 .have:=bj.mp v x a;rw[l]at this;have e:kM u.N x.1=some i:=l7 (by rw[<- h.hN];exact h.nd) (by rw[<- h.hN];exact k);rw[e]at this;simpa using this
end
set_option tactic.hygienic true in
theorem CK{X:Cx}{N:LS}{s:List (Str×NameKind)}{k:List NameKind}{e:Expr}{g:iU}(n:X.N=N)(d:X.N.Nodup)(f:∀x,dX s x k=true->L2.Loc X.env.scope x/\(X.fn x=true\/X.env.scope.names.lookup x=some .local))(q:A9 N s k e=some g):EU e=true/\PG X e (gT X.K g):=by
 unfold A9 at q;split at q
 .split at q
  .rename_i c;obtain⟨i,b,rfl⟩:=ar q;obtain⟨h,a⟩:=f _ c;exact⟨rfl,EY i d (by rw[n];exact nR b) h a⟩
  .cases q
 .cases q
theorem tg_ok{X:Cx}{N:LS}{a:List (Str×NameKind)}{k:List NameKind}{e:Expr}{g:iU}(t:X.calm=true)(f:X.N=N)(d:X.N.Nodup)(b:∀x,dX a x k=true->L2.Loc X.env.scope x/\(X.fn x=true\/X.env.scope.names.lookup x=some .local))(q:yx N a k e=some g):PG X e (gT X.K g):=by
 have all:∀{s:Ab}{h:List iU},yz N a k s=some h->GsOk X s h:=by
  intro s;induction s with
  |nil=>intro h q;cases q;exact .nil
  |cons e s i=>intro h q;obtain⟨g,n,q⟩:=ak q;obtain⟨r,p,rfl⟩:=ar q;obtain⟨c,m⟩:=CK f d b n;exact .cons c m (i p)
 unfold yx at q;split at q
 .obtain⟨h,n,rfl⟩:=ar q;exact EX t (all n)
 .exact (CK f d b q).2
variable{j:Scope}
theorem yV(h:B.scope.kind=.function):(relabel j B).names=pG j.names B.scope.names:=by unfold relabel pG Env.kindOf;rw[h];simp
variable{X:Cx}{Y:LS}{Q:List Nat}
theorem XOk.inn(h:XOk u X)(B:BlockOk X j Y Q n)(d:Y.Nodup)(s:Shared)(H:Hp)(C:Addr)(U:List Addr) :
  XOk ⟨Y,[],[],u.refs,pG j.names u.ks,u.F,u.G,u.A,u.M,u.I⟩ (Ev.inn X j Y s H C U) where
 hN:=rfl
 nd:=d
 ks:=by show(relabel j X.env).names=_;rw[yV h.kd,h.ks]
 kd:=B.kind
 calm:=h.calm
 hu:=h.hu
 fns:=h.fns
 blt:=h.blt
 glb:=h.glb
 attrs:=h.attrs
 meths:=h.meths
 mks:=h.mks
theorem oC(B:BlockOk X j Y Q n)(I:Inv X q w H s):closureFor j X.env=pure (lT j X.env):=by
 have all:∀x ∈ j.names,x.2=.free->∃c,X.env.cells.lookup x.1=some c:=λx d e=>I.ok.has x.1 (B.fr x d e).2;unfold closureFor lT;have b:∀(l:List (Str×NameKind))(a:List (Str×Addr)),(∀x ∈ l,x.2=.free->∃c,X.env.cells.lookup x.1=some c) ->
   (forIn l a fun (x:Str×NameKind) (r:List (Str×Addr))=>(do
    if x.2 == .free then do
     let c <- cellOf X.env x.1
     pure (ForInStep.yield ((x.1,c)::r))
    else pure (ForInStep.yield r):Sem (ForInStep (List (Str×Addr)))))=pure ((((l.filter λx=>x.2 == .free).map λx=>(x.1,(X.env.cells.lookup x.1).getD 0)).reverse)++a):=by
  intro l;induction l with
  |nil=>intro a _;rfl
  |cons x l i=>
   intro a e;rw[List.forIn_cons];by_cases h:(x.2 == NameKind.free)=true
   .obtain⟨c,m⟩:=e x List.mem_cons_self (by simpa using h);rw[if_pos h,nq (p:=λ(x:Str×NameKind)=>x.2 == .free) h,List.map_cons,List.reverse_cons,List.append_assoc];have v:cellOf X.env x.1=pure c:=by unfold cellOf;rw[m]
    rw[v,m];show(forIn l ((x.1,c)::a) _:Sem _)=_;rw[i ((x.1,c)::a) λy f=>e y (aS _ f)];rfl
   .rw [if_neg h,np (p:=λ(x:Str×NameKind)=>x.2 == .free) h];show(forIn l a _:Sem _)=_;rw[i a λy f=>e y (aS _ f)]
 have k:=b j.names [] all;rw [List.append_nil] at k;show (Bind.bind (forIn j.names [] fun (x:Str×NameKind) (r:List (Str×Addr))=>(do
    if x.2 == .free then do
     let c <- cellOf X.env x.1
     pure (ForInStep.yield ((x.1,c)::r))
    else pure (ForInStep.yield r):Sem (ForInStep (List (Str×Addr))))) λt=>pure t:Sem (List (Str×Addr)))=_
 rw[k];rfl
variable{E:Expr}
theorem Dr(B:BlockOk X j Y Q n)(c:X.calm=true)
  (m:PI X E iter (tI X.K d)) (f:∀s H C U,PG (inn X j Y s H C U) E (gT X.K g)) (a:∀s H C U,PIfs (inn X j Y s H C U) i k) (e:∀s H C U,PE (inn X j Y s H C U) l (tV X.K b))
  (r:∀x,foldedSetIterable iter X.env x=pure x) :
  PE X (.ListComp l [⟨E,iter,i,0⟩] j t) (tV X.K (aU d Q n g k b)):=λp s v H h I q=>
 Gb B c m f a e (oC B I) r p s v H h I q
theorem Di(i:Nat)(N:X.N.Nodup)(B:BlockOk X j Y Q n)(h:X.calm=true)
  (v:PI X E iter (tI X.K z)) (r:∀s H C U,PG (inn X j Y s H C U) E (gT X.K g)) (e:∀s H C U,PIfs (inn X j Y s H C U) k c) (f:∀s H C U,PE (inn X j Y s H C U) l (tV X.K d))
  (w:swapsWith (.ListComp l [⟨E,iter,k,0⟩] j t) (some (.Name x A)) b.line X.env=pure true)
  (u:∀x,foldedSetIterable iter X.env x=pure x) (a:X.N[i]? = some x) (y:L2.Loc X.env.scope x)
  (m:X.fn x=true\/X.env.scope.names.lookup x=some .local) :
  PS X (.Assign [.Name x A] (.ListComp l [⟨E,iter,k,0⟩] j t) b) (kx X.K (am i (eV (aU z Q n g c d)))):=λp s o H D I q=>
 F0 i N B h v r e f (oC B I) w u a y m p s o H D I q
def sS(n:Nat):Prop:=∀(u:Cn)(X:Cx),XOk u X->∀e,Good X e (tr u n e)
theorem XOk.own(h:XOk u X)(o:LS):XOk ⟨u.N,o,u.deep,u.refs,u.ks,u.F,u.G,u.A,u.M,u.I⟩ X:=⟨h.hN,h.nd,h.ks,h.kd,h.calm,h.hu,h.fns,h.blt,h.glb,h.attrs,h.meths,h.mks⟩
set_option tactic.hygienic true in
theorem uB{u:Cn}{X:Cx}(h:XOk u X){n:Nat}(G:sS n){l E iter:Expr}{k:Ab}{j:Scope}{f:EV}(q:nA u (λp x=>tr p n x) l E iter k j=some f) :
  ∃Y Q m w g v d,BlockOk X j Y Q m/\PI X E iter (tI X.K w)/\(∀s H C U,PG (inn X j Y s H C U) E (gT X.K g))/\(∀s H C U,PIfs (inn X j Y s H C U) k v)/\(∀s H C U,PE (inn X j Y s H C U) l (tV X.K d)) /\
   (∀x,foldedSetIterable iter X.env x=pure x)/\f=aU w Q m g v d:=by
 unfold nA at q;generalize N:u.N++mH u.N (gH E)=Y at q;generalize F:K0 u.N (gH E)=Q at q;generalize D:(mH u.N (gH E)).length=m at q;split at q
 .rename_i b;rw[Bool.and_eq_true]at b;obtain⟨K,o,q⟩:=ak q;obtain⟨S,P,q⟩:=ak q;obtain⟨c,t,q⟩:=ak q;obtain⟨e,A,rfl⟩:=ar q;have B:BlockOk X j Y Q m:=AB h b.1;have z:Y.Nodup:=of_decide_eq_true b.2;have i:=λs H C U=>(h.inn B z s H C U).own (u.own.filter (λx=>!(gH E).contains x))
  refine⟨Y,Q,m,K,S,c,e,B,CN h (G u X h) o,λs H C U=>?_,λs H C U=>?_,λs H C U=>?_,λx=>tU o _ x,rfl⟩
  .exact tg_ok h.calm rfl z (λx y=>⟨.inl ((i s H C U).local y),.inr ((i s H C U).local y)⟩) P
  .cases k with
   |nil=>cases t;exact PIfs.none
   |cons a r=>
    cases r with
    |nil=>exact PIfs.one ((G _ _ (i s H C U) a).b c t)
    |cons _ _=>cases t
  .exact (G _ _ (i s H C U) l).v e A
 .cases q
theorem uA{u:Cn}{X:Cx}(h:XOk u X){n:Nat}(G:sS n){e E iter:Expr}{a:Ab}{j:Scope}{t:Pos}{f:EV}(q:nA u (λb x=>tr b n x) e E iter a j=some f) :
  PE X (.ListComp e [⟨E,iter,a,0⟩] j t) (tV X.K f)/\∀(i:Nat){x:Str}{p s:Pos},X.N.Nodup->swapsWith (.ListComp e [⟨E,iter,a,0⟩] j t) (some (.Name x p)) s.line X.env=pure true->X.N[i]? = some x->L2.Loc X.env.scope x->(X.fn x=true\/X.env.scope.names.lookup x=some .local) ->
   PS X (.Assign [.Name x p] (.ListComp e [⟨E,iter,a,0⟩] j t) s) (kx X.K (am i (eV f))):=by
 obtain⟨Y,Q,m,H,S,z,o,B,c,r,v,d,w,rfl⟩:=uB h G q;exact⟨Dr B h.calm c r v d w,λi x p s N y k l g=>Di i N B h.calm c r v d y w k l g⟩
variable{o:Expr}
theorem gx(h:nV u n o=true)(a:x≠("__class__":Str)):attributeBase o x B (eval o B)=eval o B:=by
 cases n with
 |zero=>cases h
 |succ n=>
  cases o with
  |Call f O k p=>
   cases f with
   |Attribute o m q=>rfl
   |_=>cases h
  |_=>first|(cases h;done)|rfl
theorem nz(h:tf e=some s):∃c p,e=.Tuple s c p:=by
 unfold tf at h;split at h
 .cases h;exact⟨_,_,rfl⟩
 .cases h
variable{a:Expr}
theorem yP(h:yQ O=some a):∃p,O=[a,.List [] p]:=by
 unfold yQ at h;split at h
 .cases h;exact⟨_,rfl⟩
 .cases h
variable{m:Str}
theorem re(h:Fx u o m s k c=true):m=s/\nV u 4 o=true/\(k.endLine == c.line)=true:=by unfold Fx at h;simp only[Bool.and_eq_true]at h;exact⟨of_decide_eq_true h.1.1,h.1.2,h.2⟩
theorem g_(h:xL o=true):attributeBase o x B (eval o B)=eval o B:=by unfold xL at h;split at h;all_goals first|rfl|cases h
theorem B6(h:∀e ∈ O,d9 e)(l:O.length < 29):methodCallForm (O.length+([]:List Keyword).length) (backTo t (starEach O B)) (backToKw t (keywordEach [] B))=true:=by
 unfold methodCallForm;have a:=iT (B:=B) (t:=t) h;have s:(backTo t (starEach O B)).all (λx=>!x.1)=true:=by
  rw[bj];intro x k;cases b:x.1 with
  |false=>rfl
  |true=>have:(backTo t (starEach O B)).any (·.1)=true:=mR.mpr ⟨x,k,b⟩;rw[a]at this;cases this
 rw[s];have n:(backToKw t (keywordEach [] B))=[]:=rfl;rw[n];simp;lia
set_option tactic.hygienic true in
theorem qP(h:XOk u X)(g:∀x,Good X x (tr u n x)):Good X (.Call (.Attribute o m b) s [] d) (Fv u (tr u n o).e o m (s.map λx=>(tr u n x).e) b d):=by
 unfold Fv;split
 .rename_i c;simp only[Bool.and_eq_true]at c;have l:s.length < 29:=by have:=of_decide_eq_true c.2;rwa [a9]at this
  refine .ofE (λf q=>?_) λ_ _=>rfl;obtain⟨x,p,q⟩:=ak q;obtain⟨a,v,rfl⟩:=ar q;obtain⟨w,k⟩:=kC (λe _=>g e) v;have r:=Eo (o:=o) (y:=m) (j:=b) (J:=d) (r:=s) (v:=X.env) (g_ c.1.1) (B6 k l) c.1.2;cases s with
  |nil=>cases v;exact Dn h.meths ((g o).e x p) r
  |cons e j=>exact F7 h.meths ((g o).e x p) w (k e List.mem_cons_self _ _) (iT λy i=>k y (aS _ i)) r
 .exact .no
variable{f:Str}{U:Pos}
theorem BQ(h:XOk u X)(r:u.I f=some g)(p:dX u.ks f [.globalImplicit]=true)(v:iI f=true)(b:PA X (a::O) (xj X.K s))(n:∀e ∈ a::O,d9 e) :
  PE X (.Call (.Name f U) (a::O) [] t) (tE X.K (pT g f s)):=by
 obtain⟨C,k,w,i,j,x,q,mk,G,d,c⟩:=h.mks f g r;exact F9 mk G d (h.gl p) q x c b (fD v).1 (n a List.mem_cons_self _ _) (iT λe m=>n e (aS _ m))
set_option tactic.hygienic true in
theorem wc:∀n,sS n
 |0=>λu X h e=>Good.no
 |n+1=>by
  have G:=wc n;intro u X h e;have g:=G u X h;unfold tr;split
  .split
   .exact .ofV (λf q=>by cases q;exact JR) λ_ _=>rfl
   .exact .ofV (λf q=>by cases q;exact LZ) λ_ _=>rfl
   .exact .ofV (λf q=>by cases q;exact JL) λ_ _=>rfl
   .exact .ofV (λf q=>by cases q;exact JH) λ_ _=>rfl
   .exact .no
  .split
   .rename_i x p m;rw[Bool.and_eq_true]at m;refine .ofE (λf q=>?_) λ_ _=>rfl
    obtain⟨i,s,rfl⟩:=ar q;exact JE i (h.get s) (h.vis m.1) (fD m.2).1 (fD m.2).2
   .split
    .rename_i m;rw[Bool.and_eq_true]at m;refine .ofV (λf q=>?_) λ_ _=>rfl
     obtain⟨v,s,q⟩:=ak q;split at q
     .cases q
     .rename_i hd;cases q;exact F_ (h.gl m.1) ((h.glb _ v s).1 (by simpa using hd)) (fD m.2).1
    .exact .no
  .refine .ofV (λf q=>?_) λ_ _=>rfl;obtain⟨o,s,q⟩:=ak q;obtain⟨x,k,q⟩:=ak q;obtain⟨y,t,rfl⟩:=ar q;exact LW (Fe h s) ((g _).v x k) ((g _).v y t)
  .split
   .refine .ofV (λf q=>?_) λ_ _=>rfl;obtain⟨x,s,rfl⟩:=ar q;exact JM ((g _).v x s)
   .refine .ofB (λf q=>?_) λf q=>?_
    .obtain⟨x,s,rfl⟩:=ar q;exact JB ((g _).b x s)
    .obtain⟨x,s,rfl⟩:=ar q;exact JK ((g _).w x s)
   .exact .no
  .exact .ofB (λf q=>(sV (λe _=>g e) q).pt) λf q=>sW (λe _=>g e) q
  .split
   .refine .ofC (λf q=>?_) λf q=>?_
    .split at q
     .rename_i V s;obtain⟨x,k,q⟩:=ak q;obtain⟨y,t,rfl⟩:=ar q;exact JT (lR s) ((g _).v x k) ((g _).v y t) (ux _ s)
     .obtain⟨o,s,q⟩:=ak q;obtain⟨x,k,q⟩:=ak q;obtain⟨y,t,rfl⟩:=ar q;exact Gc (wU h s) ((g _).e x k) ((g _).e y t) (wu (by rw[t];rfl))
    .split at q
     .rename_i V s;obtain⟨x,k,q⟩:=ak q;obtain⟨y,t,rfl⟩:=ar q;exact JC (lR s) ((g _).v x k) ((g _).v y t) (ux _ s)
     .obtain⟨o,s,q⟩:=ak q;obtain⟨x,k,q⟩:=ak q;obtain⟨y,t,rfl⟩:=ar q;exact F4 (wU h s) ((g _).e x k) ((g _).e y t) (wu (by rw[t];rfl))
   .refine .ofC (λf q=>?_) λf q=>?_
    .obtain⟨o,s,q⟩:=ak q;obtain⟨Z,k,q⟩:=ak q;obtain⟨x,t,q⟩:=ak q;obtain⟨y,A,q⟩:=ak q;obtain⟨z,B,rfl⟩:=ar q;exact Ds (lR s) (lR k) ((g _).v x t) ((g _).v y A) ((g _).v z B) (tM (by rw[B];rfl))
    .obtain⟨o,s,q⟩:=ak q;obtain⟨Z,k,q⟩:=ak q;obtain⟨x,t,q⟩:=ak q;obtain⟨y,A,q⟩:=ak q;obtain⟨z,B,rfl⟩:=ar q;exact Dj (lR s) (lR k) ((g _).v x t) ((g _).v y A) ((g _).v z B) (tM (by rw[B];rfl))
   .exact .no
  .rename_i c a b p;have M:∀f,((tr u n c).b.bind λq=>(tr u n a).v.bind λx=>(tr u n b).v.map λy=>Cw q x y)=some f->PE X (.IfExp c a b p) (tV X.K f):=λf q=>by
    obtain⟨o,s,q⟩:=ak q;obtain⟨x,k,q⟩:=ak q;obtain⟨y,t,rfl⟩:=ar q;exact LY ((g _).b o s) ((g _).v x k) ((g _).v y t)
   refine⟨M,λf q=>?_,λf q=>(by cases q),λf q=>?_⟩
   .obtain⟨x,s,rfl⟩:=ar (show Option.map eV _=some f from q);exact Fs (M _ s)
   .obtain⟨x,s,rfl⟩:=ar (show Option.map bV _=some f from q);exact vV (M _ s)
  .refine .ofV (λf q=>?_) λ_ _=>rfl;obtain⟨x,s,rfl⟩:=ar q;exact JG (gg (λe _=>g e) s).1
  .refine .ofV (λf q=>?_) λ_ _=>rfl;obtain⟨x,s,rfl⟩:=ar q;exact JN (gg (λe _=>g e) s).1
  .split
   .exact⟨λf q=>(by cases q;exact JF yr),λf q=>(by cases q;exact yr),λf q=>(by cases q),λf q=>(by cases q)⟩
   .exact .no
  .split
   .split
    .refine .ofV (λf q=>?_) λ_ _=>rfl;obtain⟨x,s,q⟩:=ak q;obtain⟨y,k,q⟩:=ak q;obtain⟨z,t,rfl⟩:=ar q;exact JJ ((g _).v x s) (qO g k) (qO g t)
    .refine .ofV (λf q=>?_) λ_ _=>rfl;obtain⟨x,s,q⟩:=ak q;obtain⟨y,k,q⟩:=ak q;obtain⟨z,t,q⟩:=ak q;obtain⟨c,A,rfl⟩:=ar q;exact JI ((g _).v x s) (qO g k) (qO g t) (zy ((g _).v c A))
   .split
    .split
     .rename_i I;obtain⟨c,p,rfl⟩:=nz I;refine .ofE (λf q=>?_) λ_ _=>rfl
      obtain⟨x,s,q⟩:=ak q;obtain⟨y,k,rfl⟩:=ar q;exact JP (by have:=h.hu;lia) ((g _).e x s) (gg (λe _=>g e) k).1 λ_ _=>rfl
     refine .ofE (λf q=>?_) λ_ _=>rfl;obtain⟨x,s,q⟩:=ak q;obtain⟨y,k,rfl⟩:=ar q;exact JQ (by have:=h.hu;lia) ((g _).e x s) ((g _).v y k) (nK (by rw[k];rfl))
    .refine .ofV (λf q=>?_) λ_ _=>rfl;obtain⟨x,s,q⟩:=ak q;obtain⟨y,k,rfl⟩:=ar q;exact LX (by have:=h.hu;lia) ((g _).v x s) ((g _).v y k) (nK (by rw[k];rfl))
  .rename_i fn d Y cp;split
   .exact .no
   .split
    .rename_i f U;split
     .rename_i m;rw[Bool.and_eq_true]at m;split
      .rename_i W C;split
       .exact .no
       .rename_i H w;refine .ofE (λf q=>?_) λ_ _=>rfl
        obtain⟨x,s,rfl⟩:=ar q;obtain⟨j,l⟩:=kC (λe _=>g e) s;cases d with
        |nil=>exact absurd rfl w
        |cons a O=>exact BQ h C m.1 m.2 j l
      split
      .rename_i W C;split
       .exact .no
       .rename_i H w;split
        .refine .ofV (λf q=>?_) λ_ _=>rfl;obtain⟨x,s,rfl⟩:=ar q;obtain⟨j,l⟩:=kC (λe _=>g e) s;cases d with
         |nil=>exact absurd rfl w
         |cons a O=>exact(uG h C m.1 m.2 j l).1
        .refine .ofV (λf q=>?_) λ_ _=>rfl;obtain⟨x,s,rfl⟩:=ar q;obtain⟨j,l⟩:=gg (λe _=>g e) s;cases d with
         |nil=>exact absurd rfl w
         |cons a O=>exact Cj h C m.1 m.2 j l
      .split
       .exact .no
       .rename_i a;split
        .rename_i L;subst L;refine .ofV (λf q=>?_) λ_ _=>rfl
         obtain⟨x,s,rfl⟩:=ar q;exact JO (h.gl m.1) (h.blt _ (by decide)) ((g _).e x s) (bE (.inr (by rw[s];rfl)) _ _)
        .split
         .rename_i L;subst L;refine .ofV (λf q=>?_) λ_ _=>rfl
          obtain⟨x,s,rfl⟩:=ar q;exact yq (h.gl m.1) (h.blt _ (by decide)) ((g _).e x s) (bE (.inr (by rw[s];rfl)) _ _)
         .split
          .rename_i b J;obtain⟨rfl,r,p2,R,rfl,K⟩:=zH J;refine .ofV (λf q=>?_) λ_ _=>rfl
           obtain⟨x,s,rfl⟩:=ar q;obtain⟨rfl,K⟩:=m9 K;exact AT h.calm (h.gl m.1) (h.blt _ (by decide)) (h.gl K) (h.blt _ (by decide)) ((g _).v x s) (bE (.inl (by rw[s];rfl)) _ _)
          .split
           .rename_i z J;obtain⟨b,c⟩:=z;obtain⟨rfl,r,p2,R,rfl,K⟩:=w_ J;refine .ofE (λf q=>?_) λ_ _=>rfl
            obtain⟨x,s,q⟩:=ak q;obtain⟨y,k,rfl⟩:=ar q;obtain⟨rfl,K⟩:=m9 K;have P:d9 b:=bE (.inl (by rw[s];rfl));have N:d9 c:=bE (.inl (by rw[k];rfl));have D:starEach [c] X.env=[(false,eval c X.env)]:=N _ _;exact Dp h.calm (h.gl m.1) (h.blt _ (by decide)) (h.gl K) (h.blt _ (by decide)) ((g _).v x s) ((g _).v y k) (by rw[P,D]) D PyProof.Rows.boot_zip
           refine .ofV (λf q=>?_) λ_ _=>rfl;obtain⟨o,s,q⟩:=ak q;obtain⟨x,k,rfl⟩:=ar q;obtain⟨j,l⟩:=gg (s:=[a]) (λe _=>g e) k;exact Ff h s m.1 j l
       .exact .no
     .exact .no
    .split
     .split
      .rename_i m;obtain⟨rfl,S,F⟩:=re m;refine .ofE (λf q=>?_) λ_ _=>rfl
       obtain⟨x,s,q⟩:=ak q;obtain⟨y,k,rfl⟩:=ar q;exact AX ((g _).e x s) ((g _).e y k) (bE (.inr (by rw[k];rfl)) _ _) (gx S (by decide)) F
      .split
       .rename_i m;obtain⟨rfl,S,F⟩:=re m;refine .ofE (λf q=>?_) λ_ _=>rfl
        obtain⟨x,s,q⟩:=ak q;obtain⟨y,k,rfl⟩:=ar q;exact AW ((g _).e x s) ((g _).v y k) (bE (.inl (by rw[k];rfl)) _ _) (gx S (by decide)) F
       .split
        .rename_i m;simp only[Bool.and_eq_true]at m;have E:=of_decide_eq_true m.1.1;subst E;refine .ofV (λf q=>?_) λ_ _=>rfl
         obtain⟨x,s,q⟩:=ak q;obtain⟨y,k,rfl⟩:=ar q;exact Do h.hu ((g _).v x s) ((g _).v y k) (bE (.inl (by rw[k];rfl)) _ _) (g_ m.1.2) m.2
        .split
         .rename_i I;obtain⟨c,p,rfl⟩:=nz I;split
          .rename_i m;obtain⟨rfl,S,F⟩:=re m;refine .ofE (λf q=>?_) λ_ _=>rfl
           obtain⟨x,s,q⟩:=ak q;obtain⟨y,k,rfl⟩:=ar q;exact Ga (by have:=h.hu;lia) ((g _).e x s) (gg (λe _=>g e) k).1 ⟨gx S (by decide),rfl,F,rfl⟩
          .exact qP h g (s:=[_])
         .exact qP h g (s:=[_])
     .rename_i d _ _;split
      .rename_i m;simp only[Bool.and_eq_true]at m;have E:=of_decide_eq_true m.1.1;subst E;split
       .rename_i a b _;refine .ofV (λf q=>?_) λ_ _=>rfl
        obtain⟨x,s,q⟩:=ak q;obtain⟨y,k,q⟩:=ak q;obtain⟨z,t,rfl⟩:=ar q;have P:d9 a:=bE (.inl (by rw[k];rfl));have N:d9 b:=bE (.inl (by rw[t];rfl));have D:starEach [b] X.env=[(false,eval b X.env)]:=N _ _;have Q:starEach [a,b] X.env=[(false,eval a X.env),(false,eval b X.env)]:=by rw[P,D]
        exact Dm (by have:=h.hu;lia) ((g _).v x s) ((g _).v y k) ((g _).v z t) ⟨g_ m.1.2,by rw[Q];rfl,m.2,by rw[Q];rfl⟩
       .exact .no
      .split
       .rename_i T;obtain⟨p,rfl⟩:=yP T;split
        .rename_i m;obtain⟨rfl,S,F⟩:=re m;refine .ofE (λf q=>?_) λ_ _=>rfl
         obtain⟨x,s,q⟩:=ak q;obtain⟨y,k,rfl⟩:=ar q;have P:d9 _:=bE (.inl (by rw[k];rfl));exact AV ((g _).e x s) ((g _).v y k) (Cu Fj) ⟨gx S (by decide),by rw[P];rfl,F,by rw[P];rfl⟩
        .exact qP h g
       .exact qP h g
    .exact .no
  .split
   .rename_i m;refine .ofE (λf q=>?_) λ_ _=>rfl
    obtain⟨x,s,rfl⟩:=ar q;exact JS h.attrs ((g _).e x s) (g_ m)
   .exact .no
  .split
   .refine .ofV (λf q=>?_) λ_ _=>rfl;exact(uA h G q).1
   .exact .no
  .exact .no
set_option tactic.hygienic true in
theorem yB(h:XOk u X)(n:Nat):∀(k:Nat){e:Expr}{f:EE},Go u n k e=some f->PE X e (tE X.K f)
 |k,e,f,q=>by
  have g:=wc n u X h;unfold Go at q;split at q
  .rename_i z t;obtain⟨d,r⟩:=z;obtain⟨U,v,rfl⟩:=kY t;dsimp only at q;split at q
   .rename_i c;simp only[Bool.and_eq_true]at c;split at q
    .rename_i w m;obtain⟨x,p,rfl⟩:=ar q;obtain⟨s,b⟩:=kC (λe _=>g e) p;cases r with
     |nil=>simp at c
     |cons a O=>exact(uG h m c.1.1.1 c.1.1.2 s b).2
    .exact (g _).e f q
   .exact (g _).e f q
  .exact (g _).e f q
def uY(T:Stmt->Option ES):List Stmt->Option ES
 | []=>some eO
 | [s]=>T s
 |s::r=>(T s).bind λf=>(uY T r).map λg=>af f g
noncomputable def CQ:Expr->Option (Ab)
 | .List e _=>some e
 |_=>none
noncomputable def kf:Expr->Bool
 | .ListComp ..=>true
 |_=>false
noncomputable def EW:Expr->Bool
 | .Dict k v _=>k.isEmpty && v.isEmpty
 |_=>false
theorem B2(h:EW e=true):∃p,e=.Dict [] [] p:=by
 unfold EW at h;split at h
 .rw [Bool.and_eq_true]at h;rw[mS.mp h.1,mS.mp h.2];exact⟨_,rfl⟩
 .cases h
theorem jB(h:kf e=false):∀a b c d,e≠.ListComp a b c d:=λa b c d z=>by subst z;cases h
def DC(u:Cn):Nat->Stmt->Option ES
 |0,_=>none
 |n+1,st=>match st with
  | .Assign Q v _=>match Q with
   | [t]=>(match t with
   | .Name x _=>if dX u.ks x [.local,.cell]=true then (kM u.N x).bind λi=>if (u.deep.contains x && !kf v)=true then (Go u n 5 v).map (am i) else match CQ v with
    |some s=>if u.own.contains x=true then (oM (s.map λy=>(tr u n y).v)).map λa=>am i (cv a) else (tr u n v).e.map (am i)
    |none=>(tr u n v).e.map (am i)
   else none
   | .Subscript o i _=>(match tf i with
   |some s=>(tr u n o).e.bind λx=>(oM (s.map λz=>(tr u n z).v)).bind λy=>if kf v=true then none else (tr u n v).v.map λz=>wg x y z
   |none=>(tr u n o).e.bind λx=>(tr u n i).v.bind λy=>if kf v=true then none else (tr u n v).v.map λz=>fw x y z)
   | .Attribute o f _=>if (EW v && u.deep.contains f)=true then (tr u n o).e.map λx=>kD u.A x f rX else if kf v=true then none else (tr u n o).e.bind λx=>(Go u n 5 v).map λz=>kD u.A x f z
   | .Tuple s c p=>if (kf v ||zR v)=true then none else (yx u.N u.ks [.local,.cell] (.Tuple s c p)).bind λg=>(tr u n v).v.map λz=>tj g z
   |_=>none)
   |_=>none
  | .Return r _=>r.bind λe=>(tr u n e).e.map aH
  | .Expr e _=>if kf e=true then none else (tr u n e).e.map bP
  | .Raise ..=>some nG
  | .Continue _=>some IM
  | .If c a b _=>(tr u n c).b.bind λq=>(uY (DC u n) a).bind λx=>(uY (DC u n) b).map λy=>d_ q x y
  | .For E iter d l _=>if l.isEmpty=false then none else (yx u.N u.ks [.local,.cell] E).bind λg=>(yA u (λy=>tr u n y) E iter).bind λh=>(uY (DC u n) d).map λb=>b6 h g b
  |_=>none
theorem i'{v:Expr}{t:Option Expr}{line:Nat}{B:Env}(h:∀a b c d,v≠.ListComp a b c d)(x:∀a b c d,v≠.SetComp a b c d)(s:∀a b c d e,v≠.DictComp a b c d e):swapsWith v t line B=pure false:=by cases v<;>first|rfl|exact absurd rfl (h _ _ _ _)|exact absurd rfl (x _ _ _ _)|exact absurd rfl (s _ _ _ _ _)
theorem tG(h:(tr u n e).e.isSome=true):(∀a b c d,e≠.SetComp a b c d)/\∀a b c d f,e≠.DictComp a b c d f:=by
 cases n with
 |zero=>cases h
 |succ n=>exact⟨λa b c d z=>(by subst z;cases h),λa b c d f z=>(by subst z;cases h)⟩
theorem JV{u:Cn}{n:Nat}{e:Expr}{f:EV}(h:(tr u n e).v=some f)(l:∀a b c d,e≠.ListComp a b c d):(∀a b c d,e≠.SetComp a b c d)/\∀a b c d g,e≠.DictComp a b c d g:=by
 cases n with
 |zero=>cases h
 |succ n=>exact⟨λa b c d z=>(by subst z;cases h),λa b c d f z=>(by subst z;cases h)⟩
theorem CA{u:Cn}{n k:Nat}{e:Expr}{f:EE}(h:Go u n k e=some f):(∀a b c d,e≠.SetComp a b c d)/\∀a b c d g,e≠.DictComp a b c d g:=by
 cases n with
 |zero=>exact⟨λa b c d z=>(by subst z;cases h),λa b c d f z=>(by subst z;cases h)⟩
 |succ n=>exact⟨λa b c d z=>(by subst z;cases h),λa b c d f z=>(by subst z;cases h)⟩
theorem tw(h:(tr u n e).v.isSome=true):oF e:=by
 intro o t B v;cases n with
 |zero=>cases h
 |succ n=>cases e<;>first|rfl|cases h
theorem zz{e:Ab}{c:Nat}{p:Pos}{v:Expr}{B:Env}(h:zR v=false):swappedStores [.Tuple e c p] v B=pure none:=by cases v<;>first|rfl|cases h
theorem A8{u:Cn}{n:Nat}{e:Expr}{g:List Comprehension}{j:Scope}{t:Pos}{f:EE}(h:(tr u n (.ListComp e g j t)).e=some f) :
  ∃k E iter i s,n=k+1/\g=[⟨E,iter,i,0⟩]/\nA u (λa x=>tr a k x) e E iter i j=some s/\f=eV s:=by
 cases n with
 |zero=>cases h
 |succ n=>
  unfold tr at h;dsimp only at h;split at h
  .obtain⟨x,q,rfl⟩:=ar (show Option.map eV _=some f from h);exact⟨n,_,_,_,x,rfl,rfl,q,rfl⟩
  .cases h
theorem kB(h:∀st f,T st=some f->PS X st (kx X.K f)):∀{a:List Stmt}{f:ES},uY T a=some f->mJ X a (kx X.K f)
 | [],f,q=>by cases q;exact Jy
 | [s],f,q=>Jx (h s f q)
 |s::t::r,f,q=>by obtain⟨x,e,q⟩:=ak q;obtain⟨y,n,rfl⟩:=ar q;exact FZ (h s x e) (kB h n)
set_option tactic.hygienic true in
theorem yy{u:Cn}{X:Cx}(h:XOk u X)(r:∀x,X.fn x=true)(R:PassesOwn (model X.prog X.w) X.A X.env X.xe):∀n (st:Stmt) (f:ES),DC u n st=some f->PS X st (kx X.K f)
 |0,st,f,q=>by cases q
 |n+1,st,f,q=>by
  have J:=yy h r R n;have g:=wc n u X h;unfold DC at q;split at q
  .split at q
   .split at q
    .rename_i v P _ _ x B;split at q
     .rename_i A;obtain⟨i,qi,q⟩:=ak q;split at q
      .rename_i hd;rw[Bool.and_eq_true]at hd;obtain⟨N,s,rfl⟩:=ar q;obtain⟨w,j⟩:=CA s;exact AR i h.nd (yB h n 5 s) (h.get qi) (h.loc A) (i' (jB (by simpa using hd.2)) w j) (.inl (r x))
      have plain:(tr u n v).e.map (am i)=some f->PS X (.Assign [.Name x B] v P) (kx X.K f):=λq=>by
       obtain⟨N,s,rfl⟩:=ar q;by_cases Q:∃a b c d,v=.ListComp a b c d
       .obtain⟨a,b,c,d,rfl⟩:=Q;obtain⟨k,E,iter,K,Y,rfl,rfl,l,rfl⟩:=A8 s;have L:=uA (t:=d) h (wc k) l;have C:swapsWith (.ListComp a [⟨E,iter,K,0⟩] c d) (some (.Name x B)) P.line X.env=pure (X.env.blockKind == .function && X.env.kindOf x == some .local && B.line == (Expr.ListComp a [⟨E,iter,K,0⟩] c d).pos.line
         && !(c.names.any λ(n,k)=>n == x && (k == .local ||k == .cell))):=rfl
        cases O:(X.env.blockKind == .function && X.env.kindOf x == some .local && B.line == (Expr.ListComp a [⟨E,iter,K,0⟩] c d).pos.line && !(c.names.any λ(n,k)=>n == x && (k == .local ||k == .cell))) with
        |true=>rw[O]at C;exact L.2 i h.nd C (h.get qi) (h.loc A) (.inl (r x))
        |false=>rw[O]at C;exact AR i h.nd (Fs L.1) (h.get qi) (h.loc A) C (.inl (r x))
       .have H:∀a b c d,v≠.ListComp a b c d:=λa b c d z=>Q ⟨a,b,c,d,z⟩;obtain⟨w,j⟩:=tG (show(tr u n v).e.isSome=true by rw[s];rfl);exact AR i h.nd ((g v).e N s) (h.get qi) (h.loc A) (i' H w j) (.inl (r x))
      split at q
      .rename_i M F;split at q
       .obtain⟨a,s,rfl⟩:=ar q;unfold CQ at F;split at F
        .cases F;exact AR i h.nd (Cu (gg (λe _=>g e) s).1) (h.get qi) (h.loc A) rfl (.inl (r x))
        .cases F
       .exact plain q
      .exact plain q
     .cases q
    .rename_i v P _ _ o i Z;split at q
     .rename_i T;obtain⟨c,p,rfl⟩:=nz T;obtain⟨x,s,q⟩:=ak q;obtain⟨y,l,q⟩:=ak q;split at q
      .cases q
      .rename_i m;obtain⟨z,S,rfl⟩:=ar q;have H:∀a b c d,v≠.ListComp a b c d:=jB (by simpa using m);obtain⟨w,j⟩:=JV S H;exact FT (by have:=h.hu;lia) ((g o).e x s) (gg (λe _=>g e) l).1 ((g v).v z S) (i' H w j)
     obtain⟨x,s,q⟩:=ak q;obtain⟨y,l,q⟩:=ak q;split at q
     .cases q
     .rename_i m;obtain⟨z,S,rfl⟩:=ar q;have H:∀a b c d,v≠.ListComp a b c d:=jB (by simpa using m);obtain⟨w,j⟩:=JV S H;exact FW (by have:=h.hu;lia) ((g o).e x s) ((g i).v y l) ((g v).v z S) (i' H w j) rfl (tw (by rw[l];rfl))
    .rename_i v P _ _ o f W;split at q
     .rename_i hd;rw[Bool.and_eq_true]at hd;obtain⟨p,rfl⟩:=B2 hd.1;obtain⟨x,s,rfl⟩:=ar q;exact FX h.attrs ((g o).e x s) Dq (i' (λ_ _ _ _ z=>nomatch z) (λ_ _ _ _ z=>nomatch z) λ_ _ _ _ _ z=>nomatch z)
     split at q
     .cases q
     .rename_i m;obtain⟨x,s,q⟩:=ak q;obtain⟨z,l,rfl⟩:=ar q;obtain⟨w,j⟩:=CA l;exact FX h.attrs ((g o).e x s) (yB h n 5 l) (i' (jB (by simpa using m)) w j)
    .rename_i v P _ _ M c p;split at q
     .cases q
     .rename_i m;rw[i8,not_or]at m;obtain⟨U,s,q⟩:=ak q;obtain⟨z,S,rfl⟩:=ar q;have H:∀a b c d,v≠.ListComp a b c d:=jB (by simpa using m.1);obtain⟨w,j⟩:=JV S H;exact Ju ((g v).v z S) (tg_ok h.calm h.hN h.nd (λx I=>⟨h.loc I,.inl (r x)⟩) s) (show swapsWith v (some (.Tuple M c p)) P.line X.env=pure false from i' H w j) (zz (by simpa using m.2)) rfl
    .cases q
   .cases q
  .obtain⟨e,rfl,q⟩:=ak q;obtain⟨x,s,rfl⟩:=ar q;exact Jv ((g _).e x s)
  .split at q
   .cases q
   .rename_i m;obtain⟨x,s,rfl⟩:=ar q;obtain⟨w,j⟩:=tG (by rw[s];rfl);exact FY ((g _).e x s) (i' (jB (by simpa using m)) w j)
  .cases q;exact Dh
  .cases q;exact LQ
  .obtain⟨c,s,q⟩:=ak q;obtain⟨x,l,q⟩:=ak q;obtain⟨y,S,rfl⟩:=ar q;exact LP ((g _).b c s) (kB J l) (kB J S)
  .split at q
   .cases q
   rename_i D _ G;obtain⟨U,V,q⟩:=ak q;obtain⟨it,s,q⟩:=ak q;obtain⟨b,l,rfl⟩:=ar q;cases D with
   |cons _ _=>exact absurd rfl G
   |nil=>
   exact Jz R h.calm (CN h g s) (tg_ok h.calm h.hN h.nd (λx I=>⟨h.loc I,.inl (r x)⟩) V) (kB J l) λx=>tU s _ x
  .cases q
structure Df where
 name:Str
 short:Str
 cls:Str
 st:Stmt
 N:LS
 ps:LS
 own:LS
 deep:LS
 refs:LS
noncomputable abbrev At:=List (Str×LS)
noncomputable def aT(T:At)(c f:Str):Bool:=T.any λx=>decide (x.1=c) && x.2.contains f
noncomputable def fT(D:List Df)(h:Str->GF)(x:Str):Option GF:=if (D.any λd=>decide (d.name=x) && d.cls.cps.isEmpty)=true then some (h x) else none
noncomputable def CP(c m:Str)(d:Df):Bool:=decide (d.cls=c) && decide (d.short=m) && !d.cls.cps.isEmpty
def mT(D:List Df)(h:Str->GF)(c m:Str):Option GF:=if m=("__init__":Str) then none else (D.find? (CP c m)).map λd=>h d.name
def KH(D:List Df)(h:Str->GF)(c:Str):Option GF:=(D.find? (CP c "__init__")).map λd=>h d.name
noncomputable abbrev P3:=(Str->GF)×(Str->Option GF)
def KJ(G:Str->Option P)(T:At)(D:List Df)(p:P3)(d:Df):Cn:=⟨d.N,d.own,d.deep,d.refs,(aV d.st).names,fT D p.1,G,aT T,mT D p.1,p.2⟩
def sL(G:Str->Option P)(T:At)(D:List Df)(p:P3)(d:Df):ES:=(uY (DC (KJ G T D p d) 60) (dQ d.st)).getD nG
def sP(G:Str->Option P)(T:At)(D:List Df):Nat->P3
 |0=>(λ_ _ _=>none,λ_=>none)
 | n+1=>(fun x=>match D.find? fun d=>decide (d.name=x) with
  |some d=>cL d.ps.length d.N.length (sL G T D (sP G T D n) d)
  |none=>λ_ _=>none,KH D (sP G T D n).1)
noncomputable def Iv(G:Str->Option P)(T:At)(D:List Df)(n:Nat):Str->GF:=(sP G T D n).1
def IJ(d:Df):Bool:=decide ((aV d.st).kind=.function) && !(aV d.st).isCoroutine && !(aV d.st).isGenerator && decide d.N.Nodup && decide (d.N.take d.ps.length=d.ps)
 && d.ps.all (λx=>(aV d.st).names.lookup x == some .local ||(aV d.st).names.lookup x == some .cell) && (aV d.st).names.all (λy=>y.2 != .free)
theorem DN(h:IJ d=true):FnScope d.N d.ps (aV d.st):=by
 unfold IJ at h;simp only[Bool.and_eq_true]at h;obtain⟨⟨⟨⟨⟨⟨a,e⟩,s⟩,n⟩,k⟩,f⟩,b⟩:=h;refine⟨of_decide_eq_true a,by simpa using e,by simpa using s,of_decide_eq_true n,of_decide_eq_true k,λx c=>?_,λy m=>?_⟩
 .have:=bj.mp f x c;simpa using this
 .have:=bj.mp b y m;simpa using this
structure DOk(K:FG)(mg:SV)(d:Df)(f:Addr)(fd:FuncData):Prop where
 fn:Fun K d.short d.name d.st f fd
 bd:Binds K fd d.ps []
 gl:d.cls.cps.isEmpty=true->mg d.name=some (.ref f)
 cl:d.cls.cps.isEmpty=false->∃C,iZ K d.cls C/\mg d.cls=some (.ref C)/\Cls K C/\(d.short=("__init__":Str)->Mk K C f)/\(d.short≠("__init__":Str)->Meth K C d.short f)
structure TOk(w:World)(G:Str->Option P)(T:At)(D:List Df)(K:FG)(mg:SV):Prop where
 fn:∀d ∈ D,∃f fd,DOk K mg d f fd
 sc:D.all IJ=true
 un:(D.map (·.name)).Nodup
 z:∀x ∈ Cp,mg x=none
 gl:∀x v,G x=some v->k8 w K mg x v
 at':Jt K (aT T)
theorem oa:∀{D:List Df}{d:Df},(D.map (·.name)).Nodup->d ∈ D->(D.find? λe=>decide (e.name=d.name))=some d
 | [],_,_,h=>by cases h
 |a::r,d,x,h=>by
  rw[List.map_cons,List.nodup_cons]at x;rcases bq.mp h with h|h
  .subst h;simp
  .have n:¬a.name=d.name:=λz=>x.1 (by rw[z];exact aX.mpr ⟨d,h,rfl⟩);rw[List.find?_cons_of_neg (by simpa using n)];exact oa x.2 h
set_option tactic.hygienic true in
theorem AG{D:List Df}{x:Str}{a:Str->GF}{g:GF}(h:fT D a x=some g):∃d ∈ D,d.name=x/\d.cls.cps.isEmpty=true/\g=a x:=by
 unfold fT at h;split at h
 .rename_i c;cases h;obtain⟨d,hd,e⟩:=mR.mp c;rw[Bool.and_eq_true]at e;exact⟨d,hd,of_decide_eq_true e.1,e.2,rfl⟩
 .cases h
theorem zT(h:CP c m d=true):d.cls=c/\d.short=m/\d.cls.cps.isEmpty=false:=by unfold CP at h;simp only[Bool.and_eq_true]at h;exact⟨of_decide_eq_true h.1.1,of_decide_eq_true h.1.2,by simpa using h.2⟩
set_option tactic.hygienic true in
theorem AH{D:List Df}{x:Str->GF}{c m:Str}{g:GF}(h:mT D x c m=some g):m≠("__init__":Str)/\∃d ∈ D,d.cls=c/\d.short=m/\d.cls.cps.isEmpty=false/\g=x d.name:=by
 unfold mT at h;split at h
 .cases h
 .rename_i n;obtain⟨d,q,rfl⟩:=ar h;obtain⟨a,e,s⟩:=zT (mQ q);exact⟨n,d,qq q,a,e,s,rfl⟩
theorem AI{D:List Df}{x:Str->GF}{c:Str}{g:GF}(h:KH D x c=some g):∃d ∈ D,d.cls=c/\d.short=("__init__":Str)/\d.cls.cps.isEmpty=false/\g=x d.name:=by unfold KH at h;obtain⟨d,q,rfl⟩:=ar h;obtain⟨a,e,s⟩:=zT (mQ q);exact⟨d,qq q,a,e,s,rfl⟩
theorem wP {G:Str->Option P}{T:At}{D:List Df}{Pg:Program}{w:World}{K:FG}{mg:SV}{base:Heap} (Tk:TOk w G T D K mg):∀n,(∀d ∈ D,
  ∀f fd,Fun K d.short d.name d.st f fd->FnOk Pg w K mg base qc n f fd d.ps (oO K (Iv G T D n d.name))) /\
  ∀c g,(sP G T D n).2 c=some g->∃m,n=m+1/\∃C f fd ps,iZ K c C/\mg c=some (.ref C)/\Mk K C f/\FnOk Pg w K mg base qc m f fd ps (oO K g)/\Binds K fd ps []
 |0=>⟨λd hd f fd hF=>Ag,λc g h=>(by cases (show(none:Option GF)=some g from h))⟩
 |n+1=>by
  have ih:=wP (Pg:=Pg) (w:=w) (base:=base) Tk n;refine⟨λd hd f fd hF=>?_,λc g h=>?_⟩
  .have e:Iv G T D (n+1) d.name=cL d.ps.length d.N.length (sL G T D (sP G T D n) d):=by
    show(match D.find? λd'=>decide (d'.name=d.name) with|some d=>cL d.ps.length d.N.length (sL G T D (sP G T D n) d)|none=>λ_ _=>none)=_;rw[oa Tk.un hd]
   rw[e];have hsc:=DN (bj.mp Tk.sc d hd);have XO:∀(cdv:Value)(A:Around)(outer:List Env)(s:Shared)(H:Hp)(E':XK),Room n (A.deeper (envOfC d.name (aV d.st) s.heap.objs.size f cdv)) ->
     XOk (KJ G T D (sP G T D n) d) (uu qc Pg w K mg base d.N d.name (aV d.st) f cdv A outer s H E').nox:=fun cdv A outer s H E' hr=>{
    hN:=rfl
    nd:=hsc.nd
    ks:=rfl
    kd:=hsc.kind
    calm:=rfl
    hu:=by have:=hr.un;show(A.deeper (envOfC d.name (aV d.st) s.heap.objs.size f cdv)).units+64 < _;lia
    fns:=λx g hg=>by obtain⟨d',hd',hn,hc,rfl⟩:=AG hg;obtain⟨f',fd',h1⟩:=Tk.fn d' hd';subst hn;exact⟨n,f',fd',d'.ps,(ih.1 d' hd' f' fd' h1.fn),hr,h1.gl hc,h1.fn.kp,h1.bd⟩
    blt:=Tk.z
    glb:=Tk.gl
    attrs:=Tk.at'
    meths:=λc m g hg=>by obtain⟨hm,d',hd',rfl,rfl,hc,rfl⟩:=AH hg;obtain⟨f',fd',h1⟩:=Tk.fn d' hd';obtain⟨C,c1,c2,c3,c4,c5⟩:=h1.cl hc;exact⟨C,n,f',fd',d'.ps,c1,c3,c5 hm,(ih.1 d' hd' f' fd' h1.fn),hr,h1.bd⟩
    mks:=λc g hg=>by obtain⟨m,rfl,C,f',fd',ps,c1,c2,c3,c4,c5⟩:=ih.2 c g hg;exact⟨C,m,f',fd',ps,c1,c2,c3,c4,hr,c5⟩ }
   refine EZ (N:=d.N) hF hsc λcdv A outer s H E' hr=>?_;have X:=XO cdv A outer s H E' hr;unfold sL;cases q:uY (DC (KJ G T D (sP G T D n) d) 60) (dQ d.st) with
   |none=>exact xt.imp' λD σ H hz=>by obtain⟨F,m,L,S,fl,L',S',r,l,q,k⟩:=hz;cases q
   |some b=>exact kB (λst f q=>yy X (λ_=>rfl) PassesOwn.never 60 st f q) q
  .obtain⟨d,hd,rfl,hs,hc,rfl⟩:=AI (x:=(sP G T D n).1) h;obtain⟨f,fd,h1⟩:=Tk.fn d hd;obtain⟨C,c1,c2,c3,c4,c5⟩:=h1.cl hc;exact⟨n,rfl,C,f,fd,d.ps,c1,c2,c4 hs,(ih.1 d hd f fd h1.fn),h1.bd⟩
theorem tX:∀s:List Int,ci K F H (s.map .int) (s.map V.int)
 | []=>rfl
 |n::r=>⟨_,_,rfl,rfl,tX r⟩
theorem EI{K:FG}{H:Hp}{a:Addr}{n:List Int}{g:GF}{E:XK}(O:yd H)(S:hX K H a (n.map V.int))(h:pureOf g [.ro (n.map .int)]=some (.bl true)):oO K g [.ref a] H (λv _=>v=.bl true) E:=by
 refine nC ⟨λb=>b=a/\H a≠none,[.ro (n.map .int)],.bl true,λb x=>(by rw[x.1];exact x.2),⟨_,_,rfl,⟨a,_,rfl,?_,tX n⟩,rfl⟩,h,λv F s _ r=>r⟩;rcases S with S|S
 .rcases O a with z|⟨o,k,z⟩
  .rcases S with S|⟨o,S⟩<;>rw[z]at S<;>cases S
  .rcases S with S|⟨e,S⟩
   .rw [z]at S;cases S
   .exact .inl ⟨⟨rfl,by rw[z];exact λq=>nomatch q⟩,e,S⟩
 .exact .inr (.inr S)
open PySem L2
section
variable(L:Lc)(S:aD)
@[simp] theorem K'(v:P):vC v L S=some (v,S):=rfl
@[simp] theorem Jb(i:Nat):aa i L S=match L[i]? with|some (some d)=>some (d,S)|_=>none:=rfl
@[simp] theorem ny(f:EE):vE f L S=aG (f L S) (toP 9):=rfl
@[simp] theorem jQ(f:EV):eV f L S=aG (f L S) λv h=>some (.p v,h):=rfl
@[simp] theorem Dx(g:P->P->Option P)(a b:EV):ab g a b L S=aG (a L S) λx h=>aG (b L h) λy J=>(g x y).map λv=>(v,J):=rfl
@[simp] theorem JW(g:P->Option P)(a:EV):Dw g a L S=aG (a L S) λx h=>(g x).map λv=>(v,h):=rfl
@[simp] theorem LL(a:EV):bV a L S=aG (a L S) λx h=>match x with | .bl b=>some (b,h)|_=>none:=rfl
@[simp] theorem Jl(a b:EB):fV a b L S=aG (a L S) λc h=>if c=true then b L h else some (false,h):=rfl
@[simp] theorem K1(a b:EB):ya a b L S=aG (a L S) λc h=>if c=true then some (true,h) else b L h:=rfl
@[simp] theorem Jk(a:EB):mI a L S=aG (a L S) λc h=>some (!c,h):=rfl
@[simp] theorem Jj:gQ L S=some (true,S):=rfl
@[simp] theorem La(a:EB):vB a L S=aG (a L S) λc h=>some (.bl c,h):=rfl
@[simp] theorem JZ(c:EB)(a b:EV):Cw c a b L S=aG (c L S) λk h=>if k=true then a L h else b L h:=rfl
@[simp] theorem yu:aO L S=some ([],S):=rfl
@[simp] theorem xa(a:EV)(r:gf):aN a r L S=aG (a L S) λx h=>aG (r L h) λs J=>some (x::s,J):=rfl
@[simp] theorem A0(a:gf):aA a L S=aG (a L S) λx h=>if few x=true then some (.tup x,h) else none:=rfl
@[simp] theorem ID(a:gf):aQ a L S=aG (a L S) λx h=>if few x=true then some (.lst x,h) else none:=rfl
@[simp] theorem Jc(a:gf):cv a L S=aG (a L S) λx h=>if few x=true then some (.ref h.length,h++[.lst (x.map .p)]) else none:=rfl
@[simp] theorem Gk(g:List P->Option P)(a:gf):ae g a L S=aG (a L S) λx h=>(g x).map λv=>(v,h):=rfl
@[simp] theorem A3(r:EE):dA r L S=aG (r L S) λd h=>match b7 d h with|some n=>some (.int (n:Int),h)|none=>none:=by
 unfold dA;cases r L S with
 |none=>rfl
 |some z=>obtain⟨d,h⟩:=z;rw[au,au];cases b7 d h<;>rfl
@[simp] theorem Gh(r:EE):pB r L S=aG (r L S) λd h=>match xn d h with|some s=>(jo s).map λv=>(v,h)|none=>none:=rfl
@[simp] theorem JX(a:EV):Ft a L S=aG (a L S) λv h=>match v with | .int s=>if decide (s.natAbs < 1000000)=true then some (.lst (intsFrom 0 s.toNat),h) else none|_=>none:=rfl
@[simp] theorem A2(a:EV)(lo h:EO):lr a lo h L S=aG (a L S) λx e=>aG (lo L e) λi J=>aG (h L J) λj s=>(Cc x i j).map λv=>(v,s):=rfl
@[simp] theorem Gj(a b c:EV):v0 a b c L S=aG (a L S) λd h=>aG (b L h) λy J=>aG (c L J) λz x=>match d with
 | .dct s v=>match b8 y with
  |some k=>some ((bI k s v).getD z,x)
  |none=>none
 |_=>none:=rfl
@[simp] theorem Ka:eO L S=some (.nx,L,S):=rfl
@[simp] theorem mW(f g:ES):af f g L S=match f L S with|some (.nx,y,s)=>g y s|r=>r:=rfl
@[simp] theorem cq(i:Nat)(f:EE):am i f L S=aG (f L S) λd h=>some (.nx,L.set i (some d),h):=rfl
@[simp] theorem qW(f:EE):aH f L S=aG (f L S) λd h=>some (.rt d,L,h):=rfl
@[simp] theorem kE(f:EE):bP f L S=aG (f L S) λ_ h=>some (.nx,L,h):=rfl
@[simp] theorem ka(c:EB)(a b:ES):d_ c a b L S=aG (c L S) λk h=>if k=true then a L h else b L h:=rfl
@[simp] theorem bC(i:gf)(g:iU)(b:ES):b6 i g b L S=aG (i L S) λx h=>aR g b x L h:=rfl
@[simp] theorem IZ(i:Nat)(v:P):ag i v L=some (L.set i (some (.p v))):=rfl
@[simp] theorem d6(a:EV):gR a L S=aG (a L S) λv h=>match v with | .lst s=>some (s,h) | .ro s=>some (s,h)|_=>none:=rfl
@[simp] theorem jn(r:EE)(k:EV):uP r k L S=aG (r L S) λd h=>aG (k L h) λy J=>match d with
 | .p v=>(al v y).map λz=>(.p z,J)
 | .ref i=>match J[i]? with
  | some (.lst s)=>(match y with
   | .int j=>(L2.atI s j).map λz=>(z,J)
   |_=>none)
  |some (.fz v)=>(al v y).map λz=>(.p z,J)
  | some (.dct x a)=>(match b8 y with
   |some k=>(bI k x a).map λz=>(z,J)
   |none=>none)
  |_=>none:=rfl
@[simp] theorem ki(r a:EE):bg r a L S=aG (r L S) λd h=>match c8 d h with
 |none=>none
 |some _=>aG (a L h) λx J=>match c8 d J with
  |some (i,s)=>if few s=true then some (.p .non,J.set i (.lst (s++[x]))) else none
  |none=>none:=rfl
end
@[simp] theorem oe(x:List p):(few x=true)=(x.length≤1000000):=by unfold few;simp
@[simp] theorem kW(n:Nat):(gu n=true)=(n≤1000000):=by unfold gu;simp
theorem aF{p:Type}{s:List p}{i:Int}{x:p}(a:0≤i)(h:s[i.toNat]? = some x):L2.atI s i=some x:=by have l:=(List.getElem?_eq_some_iff.mp h).1;unfold L2.atI L2.xK;rw[if_pos a,if_pos (by lia)];exact h
@[simp] theorem Iq(x:p)(s:List p):L2.atI (x::s) 0=some x:=aF (by lia) rfl
@[simp] theorem Jn(x y:p)(s:List p):L2.atI (x::y::s) 1=some y:=aF (by lia) rfl
@[simp] theorem Jm(x y z:p)(s:List p):L2.atI (x::y::z::s) 2=some z:=aF (by lia) rfl
@[simp] theorem FQ(x y z w:p)(s:List p):L2.atI (x::y::z::w::s) 3=some w:=aF (by lia) rfl
@[simp] theorem Jf(x:List P)(i:Int):al (.tup x) (.int i)=L2.atI x i:=rfl
@[simp] theorem Jg(x:List P)(i:Int):al (.lst x) (.int i)=L2.atI x i:=rfl
@[simp] theorem KW(x:List P)(i:Int):al (.ro x) (.int i)=L2.atI x i:=rfl
@[simp] theorem Jh(k:List bB)(v:List P)(x:Str):al (.dct k v) (.str x)=bI (.inr x) k v:=rfl
@[simp] theorem Ih(i j:Int):ut (.int i) (.int j)=some (.bl (decide (i=j))):=rfl
@[simp] theorem Ig(i j:Str):ut (.str i) (.str j)=some (.bl (decide (i=j))):=rfl
@[simp] theorem Ji(i j:Bool):ut (.bl i) (.bl j)=some (.bl (decide (i=j))):=rfl
@[simp] theorem Je(i j:Int):dNe (.int i) (.int j)=some (.bl (!decide (i=j))):=rfl
@[simp] theorem Jd(i j:Str):dNe (.str i) (.str j)=some (.bl (!decide (i=j))):=rfl
@[simp] theorem KU(i j:Bool):dNe (.bl i) (.bl j)=some (.bl (!decide (i=j))):=rfl
@[simp] theorem Ii(i j:Int):sF (.int i) (.int j)=some (.int (i+j)):=rfl
@[simp] theorem Ib(i j:Int):sE (.int i) (.int j)=if fx i j=true then some (.int (i * j)) else none:=rfl
@[simp] theorem Ia(i:Int):vK (.int i)=some (.int (-i)):=rfl
theorem ah(e n:Nat)(b:ES)(ps:List P):pureOf (cL e n b) ps=if ps.length=e then match b (ps.map (λp=>some (.p p))++List.replicate (n-ps.length) none) [] with
 |some (.rt d,_,S)=>(toP 9 d S).map (·.1)
 |some (.nx,_,_)=>some .non
 |_=>none else none:=by
 unfold pureOf cL;rw[a9,j1];by_cases h:ps.length=e
 .rw [if_pos h,if_pos h];show (match (match b (ps.map (fun p=>some (D.p p))++List.replicate (n-ps.length) none) [] with
   |some (.rt d,_,a)=>some (d,a)
   |some (.nx,_,a)=>some (.p .non,a)
   |_=>none:Option (D×aD)) with
   |some (d,S)=>(toP 9 d S).map (λ(x:P×aD)=>x.1)
   |none=>none)=_
  cases b (ps.map (λp=>some (D.p p))++List.replicate (n-ps.length) none) [] with
  |none=>rfl
  |some z=>obtain⟨f,L,S⟩:=z;cases f<;>simp
 .rw [if_neg h,if_neg h]
variable{v:P}{r:List P}{L:Lc}{y:Lc}{S:aD}{J:aD}
theorem bu(h:g v L=some y)(x:b y S=some (.nx,L2,J)):aR g b (v::r) L S=aR g b r L2 J:=by simp[aR,h,x]
theorem Af(h:g v L=some y)(x:b y S=some (.ct,L2,J)):aR g b (v::r) L S=aR g b r L2 J:=by simp[aR,h,x]
theorem t6(h:g v L=some y)(x:b y S=some (.rt d,L2,J)):aR g b (v::r) L S=some (.rt d,L2,J):=by simp[aR,h,x]
section
variable(L:Lc)(S:aD)
@[simp] theorem IC(g:D->D->aD->Option P)(a b:EE):az g a b L S=aG (a L S) λx h=>aG (b L h) λy J=>(g x y J).map λv=>(v,J):=rfl
@[simp] theorem LM(a:EE):bT a L S=aG (a L S) λd h=>(yw d h).map λb=>(b,h):=rfl
@[simp] theorem Fu(g h:P->P->Option P)(a b c:EV):lu g h a b c L S=aG (a L S) λx e=>aG (b L e) λy J=>match g x y with
 |some (.bl true)=>aG (c L J) λz s=>(h y z).map λv=>(v,s)
 |some (.bl false)=>some (.bl false,J)
 |_=>none:=rfl
@[simp] theorem vh(a:EV):rJ a L S=aG (a L S) λv h=>match v with | .lst s=>some (bf 0 s,h) | .ro s=>some (bf 0 s,h)|_=>none:=rfl
@[simp] theorem IB(a:EV)(lo h st:EO):A1 a lo h st L S=aG (a L S) λx e=>aG (lo L e) λi J=>aG (h L J) λj s=>aG (st L s) λc n=>match x,c with
 | .lst k,some c=>if c=0 then none else some (.lst (jM k i j (some c)),n)
 |_,_=>none:=rfl
@[simp] theorem Kc:IM L S=some (.ct,L,S):=rfl
@[simp] theorem rH(a:EV):gL a L S=aG (a L S) λx h=>match x with | .int n=>if (decide (n.natAbs < 1000000))=true then some (intsFrom 0 n.toNat,h) else none|_=>none:=by
 unfold gL;cases a L S with
 |none=>rfl
 |some z=>obtain⟨x,h⟩:=z;cases x<;>first|rfl|simp
@[simp] theorem vF(r:EE)(a:EV):dP r a L S=aG (r L S) λd h=>match c8 d h with
 |none=>none
 |some _=>aG (a L h) λx J=>match c8 d J,x with
  |some (i,s),.lst y=>if gu (s.length+y.length)=true then some (.p .non,J.set i (.lst (s++y.map .p))) else none
  |_,_=>none:=rfl
@[simp] theorem HY:ba L S=some ([],S):=rfl
@[simp] theorem FE(a:EE)(r:oJ):ac a r L S=aG (a L S) λx h=>aG (r L h) λs J=>some (x::s,J):=rfl
@[simp] theorem xX(g:GF)(a:oJ):f6 g a L S=aG (a L S) λd h=>g d h:=rfl
@[simp] theorem pC(g:GF)(a:oJ):cF g a L S=aG (a L S) λs h=>aG (g s h) λd J=>aG (toP 9 d J) λv x=>some (v,trunc h.length x):=rfl
@[simp] theorem IE(T:String)(f:EE):JY T f L S=aG (f L S) λd h=>(ET T d h).map λb=>(.bl b,h):=rfl
@[simp] theorem IK(g:iU)(f:EV):tj g f L S=aG (f L S) λv h=>match g v L with|some s=>some (.nx,s,h)|none=>none:=rfl
@[simp] theorem HR(g:List iU)(v:List P):aP g (.tup v) L=nZ g v L:=rfl
@[simp] theorem HQ:nZ [] [] L=some L:=rfl
@[simp] theorem FA(g:iU)(s:List iU)(v:P)(h:List P):nZ (g::s) (v::h) L=match g v L with|some y=>nZ s h y|none=>none:=rfl
@[simp] theorem KE(T:String)(v:P):ET T (.p v) S=some (zP T v):=rfl
@[simp] theorem J0(v:P):yw (.p v) S=uX v:=rfl
@[simp] theorem IG(b:Bool):uX (.bl b)=some b:=rfl
@[simp] theorem Gm(i:Int):uX (.int i)=some (i != 0):=rfl
@[simp] theorem Ls(x y:P):dC (.p x) (.p y) S=(wK x y).map .bl:=rfl
@[simp] theorem Lr(x y:P):ma (.p x) (.p y) S=(uN x y).map .bl:=rfl
end
@[simp] theorem Ja(i j:Int):wK (.int i) (.int j)=some (decide (i=j)):=rfl
@[simp] theorem I_(i j:Str):wK (.str i) (.str j)=some (decide (i=j)):=rfl
@[simp] theorem KR(i j:Bool):wK (.bl i) (.bl j)=some (decide (i=j)):=rfl
@[simp] theorem IU(i j:Int):uN (.int i) (.int j)=some (!decide (i=j)):=rfl
@[simp] theorem IT(i j:Str):uN (.str i) (.str j)=some (!decide (i=j)):=rfl
@[simp] theorem Kw(i j:Bool):uN (.bl i) (.bl j)=some (!decide (i=j)):=rfl
@[simp] theorem FP(i j:Int):aw (.int i) (.int j)=some (.int (i+j)):=rfl
@[simp] theorem FN(x y:Str):aw (.str x) (.str y)=sF (.str x) (.str y):=rfl
@[simp] theorem FO(x y:List P):aw (.lst x) (.lst y)=if gu (x.length+y.length)=true then some (.lst (x++y)) else none:=rfl
@[simp] theorem FK(i j:Int):dg (.int i) (.int j)=if fx i j=true then some (.int (i * j)) else none:=rfl
@[simp] theorem FJ(x:List P)(n:Int):dg (.lst x) (.int n)=if (gu (x.length * n.toNat) && decide (n.natAbs < 1000000))=true then some (.lst (List.replicate n.toNat x).flatten) else none:=rfl
@[simp] theorem FH(x:List P)(n:Int):dg (.tup x) (.int n)=if (gu (x.length * n.toNat) && decide (n.natAbs < 1000000))=true then some (.tup (List.replicate n.toNat x).flatten) else none:=rfl
@[simp] theorem FI(x:Str)(n:Int):dg (.str x) (.int n)=sE (.str x) (.int n):=rfl
theorem ub(h:cb 20 v=true):wK v v=some true:=by
 unfold wK;have e:PyData.eqv (pd v) (pd v)=true:=qj _ (eI 20 v h).1;cases q:ut v v with
 |none=>simp[h,e]
 |some z=>
  cases v with
  |int i=>cases q;simp
  |str i=>cases q;simp
  |bl i=>cases q;simp
  |non=>cases q
  |tup _=>cases q
  |lst _=>cases q
  |ro _=>cases q
  |dct _ _=>cases h
theorem kH(h:cb 20 v=true):uN v v=some false:=by
 unfold uN;have e:PyData.eqv (pd v) (pd v)=true:=qj _ (eI 20 v h).1;cases q:dNe v v with
 |none=>simp[h,e]
 |some z=>
  cases v with
  |int i=>cases q;simp
  |str i=>cases q;simp
  |bl i=>cases q;simp
  |non=>cases q
  |tup _=>cases q
  |lst _=>cases q
  |ro _=>cases q
  |dct _ _=>cases h
theorem rN(h:cb 20 (.lst s)=true):wK (.lst s) (.lst [])=some s.isEmpty:=by
 unfold wK;have e:cb 20 (.lst [])=true:=rfl;show(if (cb 20 (.lst s) && cb 20 (.lst []))=true then some (PyData.eqv (pd (.lst s)) (pd (.lst []))) else none)=_;rw[h,e];cases s with
 |nil=>rfl
 |cons x r=>simp[pd,i5,PyData.eqv,PyData.eqvAll]
theorem kI(h:cb 20 (.lst s)=true):uN (.lst s) (.lst [])=some (!s.isEmpty):=by
 unfold uN;have e:cb 20 (.lst [])=true:=rfl;show(if (cb 20 (.lst s) && cb 20 (.lst []))=true then some (!PyData.eqv (pd (.lst s)) (pd (.lst []))) else none)=_;rw[h,e];cases s with
 |nil=>rfl
 |cons x r=>simp[pd,i5,PyData.eqv,PyData.eqvAll]
section
variable(L:Lc)(S:aD)
@[simp] theorem Ca(A:Str->Str->Bool)(o:EE)(f:Str):dM A o f L S=aG (o L S) λd h=>match d with
 | .ref i=>match h[i]? with
  |some (.ins c k s)=>if A c f=true then (gK f k s).map λz=>(z,h) else none
  |_=>none
 |_=>none:=rfl
@[simp] theorem IL(A:Str->Str->Bool)(o:EE)(f:Str)(v:EE):kD A o f v L S=aG (v L S) λy h=>aG (o L h) λd J=>match d with
 | .ref i=>match J[i]? with
  |some (.ins c k s)=>if (A c f && decide (k.length < 900))=true then some (.nx,L,J.set i (.ins c (putK f k) (nJ f y k s))) else none
  |_=>none
 |_=>none:=rfl
@[simp] theorem ij(M:Str->Str->Option GF)(o:EE)(m:Str)(O:oJ):dB M o m O L S=aG (o L S) λd h=>match d with
 | .ref i=>match h[i]? with
  |some (.ins c k _)=>match M c m with
   |some g=>if k.contains m=true then none else aG (O L h) λv J=>g (.ref i::v) J
   |none=>none
  |_=>none
 |_=>none:=rfl
@[simp] theorem HW(g:GF)(c:Str)(O:oJ):pT g c O L S=aG (O L S) λv h=>match g (.ref h.length::v) (h++[.ins c [] []]) with
 |some (.p .non,J)=>some (.ref h.length,J)
 |_=>none:=rfl
end
section
variable(L:Lc)(S:aD)
@[simp] theorem IF(a f:EV):oK a f L S=aG (a L S) λv h=>match v with
 | .lst p=>aG (f L h) λy J=>(i0 p y).map λ(i:Nat)=>(.int (i:Int),J)
 | .tup p=>aG (f L h) λy J=>(i0 p y).map λ(i:Nat)=>(.int (i:Int),J)
 |_=>none:=rfl
@[simp] theorem FD:rX L S=some (.ref S.length,S++[.dtt [] []]):=rfl
@[simp] theorem wN(o:EE)(k:gf):vD o k L S=aG (o L S) λd h=>aG (k L h) λps J=>match iG d J,cn ps with
 |some (_,s,v),some e=>if few ps=true then (bR e s v).map λz=>(z,J) else none
 |_,_=>none:=rfl
@[simp] theorem ue(o:EE)(k:gf):uf o k L S=aG (o L S) λd h=>match iG d h with
 |none=>none
 |some _=>aG (k L h) λp J=>match iG d J,cn p with
  |some (_,s,v),some e=>if few p=true then some ((bR e s v).getD (.p .non),J) else none
  |_,_=>none:=rfl
@[simp] theorem GW(o:EE)(k:gf)(v:EV):wg o k v L S=aG (v L S) λy a=>aG (o L a) λd J=>aG (k L J) λps h=>match iG d h,cn ps with
 |some (i,s,x),some e=>if (s.Nodup/\few s=true/\few ps=true) then some (.nx,L,h.set i (.dtt (cM e (.p y) s x).1 (cM e (.p y) s x).2)) else none
 |_,_=>none:=rfl
@[simp] theorem ol(o:EE)(k:EV)(d:EE):m_ o k d L S=aG (o L S) λx a=>match jF x a with
 |none=>none
 |some _=>aG (k L a) λz J=>aG (d L J) λy h=>match jF x h,b8 z with
  |some (i,s,v),some e=>if (s.Nodup/\few s=true) then match bR e s v with
    |some w=>some (w,h)
    |none=>some (y,h.set i (.dct (cM e y s v).1 (cM e y s v).2))
   else none
  |_,_=>none:=rfl
@[simp] theorem FC(f b:EV):rW f b L S=aG (f L S) λx h=>aG (b L h) λy J=>match x,y with
 | .lst s,.tup v=>match cn s with
  |some k=>if (k.Nodup/\few s=true/\k.length≤v.length) then some (.ref J.length,J++[.dct k ((v.take k.length).map .p)]) else none
  |none=>none
 |_,_=>none:=rfl
end
section
variable{L:Lc}{S:aD}
@[simp high] theorem MK(d:D) :aa 0 (some d::L) S=some (d,S):=rfl
@[simp high] theorem MJ(d:D)(a:Option D):aa 1 (a::some d::L) S=some (d,S):=rfl
@[simp high] theorem MH(d:D)(a h:Option D):aa 2 (a::h::some d::L) S=some (d,S):=rfl
@[simp high] theorem MG(d:D)(a h x:Option D):aa 3 (a::h::x::some d::L) S=some (d,S):=rfl
@[simp high] theorem MF(d:D)(a h x e:Option D):aa 4 (a::h::x::e::some d::L) S=some (d,S):=rfl
@[simp high] theorem ME(d:D)(a h x e s:Option D):aa 5 (a::h::x::e::s::some d::L) S=some (d,S):=rfl
@[simp high] theorem MD(d:D)(a h x e s n:Option D):aa 6 (a::h::x::e::s::n::some d::L) S=some (d,S):=rfl
@[simp high] theorem MC(d:D)(a h x e s n k:Option D):aa 7 (a::h::x::e::s::n::k::some d::L) S=some (d,S):=rfl
@[simp high] theorem MB(d:D)(a h x e s n k f:Option D):aa 8 (a::h::x::e::s::n::k::f::some d::L) S=some (d,S):=rfl
@[simp high] theorem MA(d:D)(a h x e s n k f b:Option D):aa 9 (a::h::x::e::s::n::k::f::b::some d::L) S=some (d,S):=rfl
@[simp high] theorem LH(d:D)(a h x e s n k f b c:Option D):aa 10 (a::h::x::e::s::n::k::f::b::c::some d::L) S=some (d,S):=rfl
@[simp high] theorem LG(d:D)(h x e s n k f b c m a:Option D):aa 11 (h::x::e::s::n::k::f::b::c::m::a::some d::L) S=some (d,S):=rfl
@[simp high] theorem LF(d:D)(x e s n k f b c m r a h:Option D):aa 12 (x::e::s::n::k::f::b::c::m::r::a::h::some d::L) S=some (d,S):=rfl
@[simp high] theorem LD(d:D)(e s n k f b c m r t a h x:Option D):aa 13 (e::s::n::k::f::b::c::m::r::t::a::h::x::some d::L) S=some (d,S):=rfl
@[simp high] theorem LC(d:D)(s n k f b c m r t p a h x e:Option D):aa 14 (s::n::k::f::b::c::m::r::t::p::a::h::x::e::some d::L) S=some (d,S):=rfl
@[simp high] theorem LB(d:D)(n k f b c m r t p q a h x e s:Option D):aa 15 (n::k::f::b::c::m::r::t::p::q::a::h::x::e::s::some d::L) S=some (d,S):=rfl
@[simp high] theorem LA(d:D)(k f b c m r t p q v a h x e s n:Option D):aa 16 (k::f::b::c::m::r::t::p::q::v::a::h::x::e::s::n::some d::L) S=some (d,S):=rfl
@[simp high] theorem Lz(d:D)(f b c m r t p q v w a h x e s n k:Option D):aa 17 (f::b::c::m::r::t::p::q::v::w::a::h::x::e::s::n::k::some d::L) S=some (d,S):=rfl
@[simp ↓ high] theorem Mw(x y:s):(if few ([]:List p)=true then x else y)=x:=rfl
@[simp ↓ high] theorem Mv(a:p)(x y:s):(if few ([a]:List p)=true then x else y)=x:=rfl
@[simp ↓ high] theorem Mu(a h:p)(x y:s):(if few ([a,h]:List p)=true then x else y)=x:=rfl
@[simp ↓ high] theorem Mt(a h e:p)(x y:s):(if few ([a,h,e]:List p)=true then x else y)=x:=rfl
@[simp ↓ high] theorem Ms(a h e s:p)(x y:k):(if few ([a,h,e,s]:List p)=true then x else y)=x:=rfl
@[simp ↓ high] theorem Mr(a h e s n:p)(x y:k):(if few ([a,h,e,s,n]:List p)=true then x else y)=x:=rfl
@[simp ↓ high] theorem Mq(a h e s n k:p)(x y:b):(if few ([a,h,e,s,n,k]:List p)=true then x else y)=x:=rfl
@[simp ↓ high] theorem Mp(a h e s n k f:p)(x y:b):(if few ([a,h,e,s,n,k,f]:List p)=true then x else y)=x:=rfl
@[simp ↓ high] theorem Mo(a h e s n k f b:p)(x y:c):(if few ([a,h,e,s,n,k,f,b]:List p)=true then x else y)=x:=rfl
@[simp ↓ high] theorem Mn(a h e s n k f b c:p)(x y:q):(if few ([a,h,e,s,n,k,f,b,c]:List p)=true then x else y)=x:=rfl
@[simp ↓ high] theorem Lv(a h e s n k f b c m:p)(x y:q):(if few ([a,h,e,s,n,k,f,b,c,m]:List p)=true then x else y)=x:=rfl
@[simp ↓ high] theorem Lu(h e s n k f b c m r a:p)(x y:q):(if few ([h,e,s,n,k,f,b,c,m,r,a]:List p)=true then x else y)=x:=rfl
@[simp high] theorem MP(v:P)(S:aD):toP 9 (.p v) S=some (v,S):=rfl
@[simp ↓ high] theorem LK(x:Option (p×aD))(f:p->aD->Option s):aG x f=match x with|some (a,S)=>f a S|none=>none:=rfl
@[simp ↓ high] theorem Mh(x y:s):(if true=true then x else y)=x:=rfl
@[simp ↓ high] theorem Mi(x y:s):(if false=true then x else y)=y:=rfl
end
end Ev
namespace My
variable{n:Nat}
theorem Mz(h:1≤n):∃m,n=m+1:=⟨n-1,by lia⟩
theorem fF{n:Nat}(h:2≤n):∃m,n=m+2:=⟨n-2,by lia⟩
theorem Mx(h:4≤n):∃m,n=m+4:=⟨n-4,by lia⟩
open PySem L2 Ev
noncomputable abbrev qp(x:P):Option D:=some (.p x)
noncomputable abbrev qi(x:Int):Option D:=some (.p (.int x))
noncomputable abbrev qs(x:Str):Option D:=some (.p (.str x))
noncomputable abbrev ql(x:List P):Option D:=some (.p (.lst x))
noncomputable abbrev qt(x:List P):Option D:=some (.p (.tup x))
noncomputable abbrev qr(x:Nat):Option D:=some (.ref x)
abbrev vv(k:Nat):EV:=vE (aa k)
abbrev vi(i:Int):EV:=vC (.int i)
abbrev vt(x:Str):EV:=vC (.str x)
abbrev v1(a:EV):gf:=aN a aO
abbrev v2(a b:EV):gf:=aN a (aN b aO)
abbrev v3(a b c:EV):gf:=aN a (aN b (aN c aO))
abbrev v4(a b c d:EV):gf:=aN a (aN b (aN c (aN d aO)))
abbrev v5(a b c d e:EV):gf:=aN a (aN b (aN c (aN d (aN e aO))))
abbrev v6(a b c d e f:EV):gf:=aN a (aN b (aN c (aN d (aN e (aN f aO)))))
abbrev v7(a b c d e f g:EV):gf:=aN a (aN b (aN c (aN d (aN e (aN f (aN g aO))))))
abbrev v8(a b c d e f g h:EV):gf:=aN a (aN b (aN c (aN d (aN e (aN f (aN g (aN h aO)))))))
noncomputable def dO(i:Nat):Stmt:=PySem.Challenge.pw_roadsall_k23_whole_own_steps_go_past.main.body.getD i (.Pass ⟨0,0,0,0⟩)
noncomputable def Gv(x:Str):Option P:=if x=("HIGHEST_LETTER":Str) then some (.int 999) else if x=("NOBODY":Str) then some (.int (-1)) else none
def mF:Df:=⟨"_law_cell_at","_law_cell_at","",(dO 34),["_law_script","_law_k"],["_law_script","_law_k"],[],[],["flaw_ends","Board.family_of","Board.hands_beside","takeable","targets_of","posted","sendings","step_ends","hand_ends","ends_on","Board.__init__","do_on"]⟩
def uo:Df:=⟨"_law_mix","_law_mix","",(dO 35),["_law_cell","_law_k","_law_turn","_law_number"],["_law_cell","_law_k"],[],[],["flaw_ends","Board.family_of","Board.hands_beside","takeable","targets_of","posted","sendings","step_ends","hand_ends","ends_on","Board.__init__","do_on"]⟩
def o9:Df:=⟨"_law_roads","_law_roads","",(dO 40),["_law_script","_law_families_here","_law_room","_law_roads_here","_law_k","_law_one","_law_j","_law_other","_law_drawn","_law_kind"],["_law_script","_law_families_here","_law_room"],["_law_roads_here"],[],["flaw_ends","Board.family_of","Board.hands_beside","takeable","targets_of","posted","sendings","step_ends","hand_ends","ends_on","Board.__init__","do_on"]⟩
def su:Df:=⟨"_law_name","_law_name","",(dO 36),["_law_script","_law_k","_law_drawn"],["_law_script","_law_k"],[],[],["flaw_ends","Board.family_of","Board.hands_beside","takeable","targets_of","posted","sendings","step_ends","hand_ends","ends_on","Board.__init__","do_on"]⟩
def pa:Df:=⟨"_law_cells","_law_cells","",(dO 37),["_law_script","_law_family_here","_law_most","_law_cells_here","_law_k","_law_drawn","_law_low","_law_high"],["_law_script","_law_family_here","_law_most"],["_law_cells_here"],[],["flaw_ends","Board.family_of","Board.hands_beside","takeable","targets_of","posted","sendings","step_ends","hand_ends","ends_on","Board.__init__","do_on"]⟩
def um:Df:=⟨"_law_sum","_law_sum","",(dO 38),["_law_drawn","_law_names","_law_name_here"],["_law_drawn","_law_names"],[],[],["flaw_ends","Board.family_of","Board.hands_beside","takeable","targets_of","posted","sendings","step_ends","hand_ends","ends_on","Board.__init__","do_on"]⟩
def o8:Df:=⟨"_law_sends","_law_sends","",(dO 41),["_law_drawn","_law_family_here","_law_names","_law_whos","_law_roads_here","_law_most","_law_goals","_law_sends_here","_law_k","_law_some","_law_tree","_law_mark"],["_law_drawn","_law_family_here","_law_names","_law_whos","_law_roads_here","_law_most"],["_law_sends_here"],[],["flaw_ends","Board.family_of","Board.hands_beside","takeable","targets_of","posted","sendings","step_ends","hand_ends","ends_on","Board.__init__","do_on"]⟩
def kT:Df:=⟨"_law_condition","_law_condition","",(dO 39),["_law_drawn","_law_names","_law_word","_law_plain"],["_law_drawn","_law_names"],[],[],["flaw_ends","Board.family_of","Board.hands_beside","takeable","targets_of","posted","sendings","step_ends","hand_ends","ends_on","Board.__init__","do_on"]⟩
def sk:Df:=⟨"_law_step","_law_step","",(dO 42),["_law_drawn","_law_family_here","_law_rooms","_law_cells_here","_law_whos","_law_roads_here","_law_names","_law_senders","_law_take","_law_free","_law_more","_law_into","_law_who","_law_changes","_law_k","_law_name_here","_law_sends_here","_law_when"],["_law_drawn","_law_family_here","_law_rooms","_law_cells_here","_law_whos","_law_roads_here"],["_law_changes"],[],["flaw_ends","Board.family_of","Board.hands_beside","takeable","targets_of","posted","sendings","step_ends","hand_ends","ends_on","Board.__init__","do_on"]⟩
def oz:Df:=⟨"_law_family","_law_family","",(dO 43),["_law_script","_law_k","_law_name_here","_law_crew_here","_law_wide","_law_roads_here","_law_cells_here","_law_drawn","_law_rooms","_law_whos","_law_steps","_law_j","_law_first"],["_law_script","_law_k","_law_name_here","_law_crew_here","_law_wide","_law_roads_here"],["_law_steps"],[],["flaw_ends","Board.family_of","Board.hands_beside","takeable","targets_of","posted","sendings","step_ends","hand_ends","ends_on","Board.__init__","do_on"]⟩
def sm:Df:=⟨"_law_plan","_law_plan","",(dO 44),["_law_script","_law_most","_law_total","_law_wide","_law_many","_law_names","_law_roads_here","_law_families_here","_law_k","_law_name_here","_law_crew_here","_law_wishes","_law_drawn","_law_family_here"],["_law_script","_law_most"],["_law_families_here","_law_wishes"],[],["flaw_ends","Board.family_of","Board.hands_beside","takeable","targets_of","posted","sendings","step_ends","hand_ends","ends_on","Board.__init__","do_on"]⟩
def lO:Df:=⟨"_law_families","_law_families","",(dO 45),["_law_plan_here","_law_found","_law_family_here"],["_law_plan_here"],[],[],["flaw_ends","Board.family_of","Board.hands_beside","takeable","targets_of","posted","sendings","step_ends","hand_ends","ends_on","Board.__init__","do_on"]⟩
def sv:Df:=⟨"_law_crew","_law_crew","",(dO 46),["_law_plan_here","_law_name_here"],["_law_plan_here","_law_name_here"],[],[],["flaw_ends","Board.family_of","Board.hands_beside","takeable","targets_of","posted","sendings","step_ends","hand_ends","ends_on","Board.__init__","do_on"]⟩
def o_:Df:=⟨"_law_pairs","_law_pairs","",(dO 47),["_law_plan_here","_law_found","_law_road","_law_one","_law_other"],["_law_plan_here"],["_law_found"],[],["flaw_ends","Board.family_of","Board.hands_beside","takeable","targets_of","posted","sendings","step_ends","hand_ends","ends_on","Board.__init__","do_on"]⟩
def lN:Df:=⟨"_law_standing","_law_standing","",(dO 48),["_law_script","_law_plan_here","_law_hands","_law_families_here","_law_hand","_law_family_here","_law_drawn","_law_cells_here","_law_k","_law_cell","_law_whos","_law_roads_here","_law_place","_law_pair","_law_letters","_law_number"],["_law_script","_law_plan_here"],["_law_cells_here","_law_hands","_law_letters","_law_roads_here","_law_whos"],[],["flaw_ends","Board.family_of","Board.hands_beside","takeable","targets_of","posted","sendings","step_ends","hand_ends","ends_on","Board.__init__","do_on"]⟩
def mG:Df:=⟨"families_of","families_of","",(dO 11),["plan","homes","place","family"],["plan"],["homes"],[],["flaw_ends","Board.family_of","Board.hands_beside","takeable","targets_of","posted","sendings","step_ends","hand_ends","ends_on","Board.__init__","do_on"]⟩
def sj:Df:=⟨"pairs_of","pairs_of","",(dO 12),["plan","names","pairs","road","one","name","others"],["plan"],["pairs"],[],["flaw_ends","Board.family_of","Board.hands_beside","takeable","targets_of","posted","sendings","step_ends","hand_ends","ends_on","Board.__init__","do_on"]⟩
def x5:Df:=⟨"begin","begin","",(dO 13),["plan","hands","place","cells","whos"],["plan"],["hands"],[],["flaw_ends","Board.family_of","Board.hands_beside","takeable","targets_of","posted","sendings","step_ends","hand_ends","ends_on","Board.__init__","do_on"]⟩
def sB:Df:=⟨"has_flaw","has_flaw","",(dO 29),["road","word","letters"],["road","word","letters"],[],[],["flaw_ends","Board.family_of","Board.hands_beside","takeable","targets_of","posted","sendings","step_ends","hand_ends","ends_on","Board.__init__","do_on"]⟩
def lM:Df:=⟨"unlike_spots","unlike_spots","",(dO 21),["kind","letters","spots"],["kind","letters"],[],[],["flaw_ends","Board.family_of","Board.hands_beside","takeable","targets_of","posted","sendings","step_ends","hand_ends","ends_on","Board.__init__","do_on"]⟩
def si:Df:=⟨"replaced","replaced","",(dO 32),["row","place","thing"],["row","place","thing"],[],[],["flaw_ends","Board.family_of","Board.hands_beside","takeable","targets_of","posted","sendings","step_ends","hand_ends","ends_on","Board.__init__","do_on"]⟩
def ul:Df:=⟨"without","without","",(dO 31),["row","place"],["row","place"],[],[],["flaw_ends","Board.family_of","Board.hands_beside","takeable","targets_of","posted","sendings","step_ends","hand_ends","ends_on","Board.__init__","do_on"]⟩
def vJ:Df:=⟨"flawed","flawed","",(dO 30),["word","letters","spot"],["word","letters","spot"],[],[],["flaw_ends","Board.family_of","Board.hands_beside","takeable","targets_of","posted","sendings","step_ends","hand_ends","ends_on","Board.__init__","do_on"]⟩
def pc:Df:=⟨"flaw_ends","flaw_ends","",(dO 28),["board","standing","word","ends","place","pair","road","one","other","letters","spot","roads"],["board","standing","word"],["board","ends"],[],["flaw_ends","Board.family_of","Board.hands_beside","takeable","targets_of","posted","sendings","step_ends","hand_ends","ends_on","Board.__init__","do_on"]⟩
def jH:Df:=⟨"Board.family_of","family_of","Board",(L2.cu (dO 10) 1),["self","hand"],["self","hand"],["self"],[],["flaw_ends","Board.family_of","Board.hands_beside","takeable","targets_of","posted","sendings","step_ends","hand_ends","ends_on","Board.__init__","do_on"]⟩
def o6:Df:=⟨"values_of","values_of","",(dO 19),["family","cells"],["family","cells"],[],[],["flaw_ends","Board.family_of","Board.hands_beside","takeable","targets_of","posted","sendings","step_ends","hand_ends","ends_on","Board.__init__","do_on"]⟩
def sC:Df:=⟨"compared","compared","",(dO 6),["word","one","other"],["word","one","other"],[],[],["flaw_ends","Board.family_of","Board.hands_beside","takeable","targets_of","posted","sendings","step_ends","hand_ends","ends_on","Board.__init__","do_on"]⟩
def sf:Df:=⟨"value_of","value_of","",(dO 4),["tree","values","kind","one","other"],["tree","values"],[],[],["flaw_ends","Board.family_of","Board.hands_beside","takeable","targets_of","posted","sendings","step_ends","hand_ends","ends_on","Board.__init__","do_on"]⟩
def x3:Df:=⟨"holds","holds","",(dO 5),["condition","values","kind"],["condition","values"],[],[],["flaw_ends","Board.family_of","Board.hands_beside","takeable","targets_of","posted","sendings","step_ends","hand_ends","ends_on","Board.__init__","do_on"]⟩
def iK:Df:=⟨"Board.hands_beside","hands_beside","Board",(L2.cu (dO 10) 2),["self","hand","name"],["self","hand","name"],["self"],[],["flaw_ends","Board.family_of","Board.hands_beside","takeable","targets_of","posted","sendings","step_ends","hand_ends","ends_on","Board.__init__","do_on"]⟩
def sg:Df:=⟨"takeable","takeable","",(dO 20),["board","roads","hand","take","found","sender","place","kind","letters","spots"],["board","roads","hand","take"],["board","found"],[],["flaw_ends","Board.family_of","Board.hands_beside","takeable","targets_of","posted","sendings","step_ends","hand_ends","ends_on","Board.__init__","do_on"]⟩
def lP:Df:=⟨"cells_behind","cells_behind","",(dO 23),["family","cells","step","values","given","name","amount","numbers","place","cell","number"],["family","cells","step","values"],["given","numbers"],[],["flaw_ends","Board.family_of","Board.hands_beside","takeable","targets_of","posted","sendings","step_ends","hand_ends","ends_on","Board.__init__","do_on"]⟩
def mD:Df:=⟨"whos_behind","whos_behind","",(dO 24),["family","whos","take","letter"],["family","whos","take","letter"],[],[],["flaw_ends","Board.family_of","Board.hands_beside","takeable","targets_of","posted","sendings","step_ends","hand_ends","ends_on","Board.__init__","do_on"]⟩
def ov:Df:=⟨"targets_of","targets_of","",(dO 26),["board","hand","way","name","whos","others"],["board","hand","way","name","whos"],["board"],[],["flaw_ends","Board.family_of","Board.hands_beside","takeable","targets_of","posted","sendings","step_ends","hand_ends","ends_on","Board.__init__","do_on"]⟩
def vI:Df:=⟨"posted","posted","",(dO 27),["board","roads","hand","targets","letter","target","place","road","letters"],["board","roads","hand","targets","letter"],["board"],[],["flaw_ends","Board.family_of","Board.hands_beside","takeable","targets_of","posted","sendings","step_ends","hand_ends","ends_on","Board.__init__","do_on"]⟩
def sh:Df:=⟨"sendings","sendings","",(dO 25),["board","hand","sends","values","roads","whos","ways","mark","amount","way","name","letter","further","chosen","sent","added","targets","roads_behind"],["board","hand","sends","values","roads","whos"],["board","further"],[],["flaw_ends","Board.family_of","Board.hands_beside","takeable","targets_of","posted","sendings","step_ends","hand_ends","ends_on","Board.__init__","do_on"]⟩
def o7:Df:=⟨"step_ends","step_ends","",(dO 22),["board","standing","hand","step","letter","family","room","cells","whos","roads","values","place","hands","ends","chosen","roads_behind"],["board","standing","hand","step","letter"],["board","ends","values"],["values","values_of"],["flaw_ends","Board.family_of","Board.hands_beside","takeable","targets_of","posted","sendings","step_ends","hand_ends","ends_on","Board.__init__","do_on"]⟩
def pb:Df:=⟨"hand_ends","hand_ends","",(dO 18),["board","standing","hand","family","room","cells","whos","values","ends","step","letter"],["board","standing","hand"],["board","ends"],[],["flaw_ends","Board.family_of","Board.hands_beside","takeable","targets_of","posted","sendings","step_ends","hand_ends","ends_on","Board.__init__","do_on"]⟩
def uq:Df:=⟨"ends_on","ends_on","",(dO 17),["board","standing","ends","hand"],["board","standing"],["board","ends"],[],["flaw_ends","Board.family_of","Board.hands_beside","takeable","targets_of","posted","sendings","step_ends","hand_ends","ends_on","Board.__init__","do_on"]⟩
def oA:Df:=⟨"Board.__init__","__init__","Board",(L2.cu (dO 10) 0),["self","plan","place","pair","hand"],["self","plan"],["self"],["families_of","pairs_of","places","self"],["flaw_ends","Board.family_of","Board.hands_beside","takeable","targets_of","posted","sendings","step_ends","hand_ends","ends_on","Board.__init__","do_on"]⟩
def pe:Df:=⟨"ends_from","ends_from","",(dO 16),["plan","standing"],["plan","standing"],[],[],["flaw_ends","Board.family_of","Board.hands_beside","takeable","targets_of","posted","sendings","step_ends","hand_ends","ends_on","Board.__init__","do_on"]⟩
def ow:Df:=⟨"_law_is_own","_law_is_own","",(dO 49),["_law_plan_here","_law_deed","_law_steps"],["_law_plan_here","_law_deed"],[],[],["flaw_ends","Board.family_of","Board.hands_beside","takeable","targets_of","posted","sendings","step_ends","hand_ends","ends_on","Board.__init__","do_on"]⟩
def mE:Df:=⟨"_law_touches","_law_touches","",(dO 50),["_law_plan_here","_law_standing_here","_law_deed","_law_end","_law_changed"],["_law_plan_here","_law_standing_here","_law_deed","_law_end"],[],[],["flaw_ends","Board.family_of","Board.hands_beside","takeable","targets_of","posted","sendings","step_ends","hand_ends","ends_on","Board.__init__","do_on"]⟩
def x4:Df:=⟨"do_on","do_on","",(dO 15),["board","standing","deed","known","end"],["board","standing","deed"],["board"],[],["flaw_ends","Board.family_of","Board.hands_beside","takeable","targets_of","posted","sendings","step_ends","hand_ends","ends_on","Board.__init__","do_on"]⟩
def E9:Df:=⟨"do","do","",(dO 14),["plan","standing","deed"],["plan","standing","deed"],[],[],["flaw_ends","Board.family_of","Board.hands_beside","takeable","targets_of","posted","sendings","step_ends","hand_ends","ends_on","Board.__init__","do_on"]⟩
def sr:Df:=⟨"_law_past","_law_past","",(dO 51),["_law_plan_here","_law_one","_law_other","_law_behind","_law_ahead"],["_law_plan_here","_law_one","_law_other"],[],[],["flaw_ends","Board.family_of","Board.hands_beside","takeable","targets_of","posted","sendings","step_ends","hand_ends","ends_on","Board.__init__","do_on"]⟩
def sw:Df:=⟨"law","law","",(dO 52),["_law_script","_law_plan_here","_law_standing_here","_law_ends","_law_deed","_law_end","_law_one","_law_other"],["_law_script"],[],[],["flaw_ends","Board.family_of","Board.hands_beside","takeable","targets_of","posted","sendings","step_ends","hand_ends","ends_on","Board.__init__","do_on"]⟩
noncomputable def Att:At:=[("Board",["families","homes","members","pairs","places"])]
def Tb:List Df:=[mF,uo,o9,su,pa,um,o8,kT,sk,oz,sm,lO,sv,o_,lN,mG,sj,x5,sB,lM,si,ul,vJ,pc,jH,o6,sC,sf,x3,iK,sg,lP,mD,ov,vI,sh,o7,pb,uq,oA,pe,ow,mE,x4,E9,sr,sw]
noncomputable def Ph(n:Nat):Str->GF:=Iv Gv Att Tb n
def gb (x h:Str->GF):ES:=(af (d_ (bV (ab AN (vv 1) (dA (aa 0)))) (aH (eV (ab al (vv 0) (vv 1)))) eO)
  (aH (eV (vi 0))))
theorem iW(n:Nat):Ph (n+2) "_law_cell_at"=cL 2 2 (gb (Ph (n+1)) (Ph n)):=by kernel_rfl
def gO(x h:Str->GF):ES:=(am 0 (eV (ab aE (vv 0) (vi 2147483648))))
def jr (x h:Str->GF):ES:=(af (d_ (bV (ab Ie (vv 0) (ab Cd (vi 10) (vi 12)))) (af (am 0 (eV (ab sD (ab aE (vv 0) (ab Cd (vi 10) (vi 12))) (vi 1))))
  (af (b6 (gL (ab aZ (vv 1) (vi 61))) (ag 2) (gO x h))
  (aH (eV (ab aZ (vv 0) (vi 2147483648)))))) eO)
  (af (am 3 (eV (ab aZ (ab dg (ab aw (ab aw (ab aZ (vv 0) (vi 1000003)) (ab dg (ab dg (vv 1) (vv 1)) (vi 7919))) (vv 1)) (vi 48271)) (vi 2147483629))))
  (af (am 3 (eV (ab aZ (ab dg (vv 3) (vv 3)) (vi 2147483587))))
  (aH (eV (ab aE (ab aZ (ab dg (vv 3) (ab aw (vv 3) (vi 2))) (vi 2147483579)) (vi 7)))))))
theorem mf(n:Nat):Ph (n+2) "_law_mix"=cL 2 4 (jr (Ph (n+1)) (Ph n)):=by kernel_rfl
def cY (h x:Str->GF):ES:=(af (am 8 (eV (ae (pureOf (h "_law_mix")) (v2 (ae (pureOf (h "_law_cell_at")) (v2 (vv 0) (vi 4))) (ab aw (ab aw (vi 30) (ab dg (vi 4) (vv 4))) (vv 6))))))
  (d_ (fV (bV (ab FM (ab aZ (vv 8) (vi 4)) (vi 0))) (bV (ab AN (dA (aa 3)) (vi 8)))) (af (am 9 (eV (ab al (aQ (v2 (vt "row") (vt "heap"))) (ab aZ (ab aE (vv 8) (vi 4)) (vi 2)))))
  (bP (bg (aa 3) (eV (aA (v6 (vv 5) (vv 7) (vv 9) (ab aw (vi 1) (ab aZ (ab aE (vv 8) (vi 8)) (vv 2))) (az dC (eV (ab aZ (ab aE (vv 8) (vi 24)) (vi 3))) (eV (vi 1))) (az dC (eV (ab aZ (ab aE (vv 8) (vi 72)) (vi 3))) (eV (vi 1))))))))) eO))
def fI(x h:Str->GF):ES:=(b6 (rJ (vv 1)) (aP [ag 6,ag 7]) (cY x h))
def jU (x h:Str->GF):ES:=(af (am 3 (cv aO))
  (af (b6 (rJ (vv 1)) (aP [ag 4,ag 5]) (fI x h))
  (aH (aa 3))))
theorem oX(n:Nat):Ph (n+2) "_law_roads"=cL 3 10 (jU (Ph (n+1)) (Ph n)):=by kernel_rfl
def k5 (h x:Str->GF):ES:=(af (am 2 (eV (ae (pureOf (h "_law_mix")) (v2 (ae (pureOf (h "_law_cell_at")) (v2 (vv 0) (vi 1))) (vv 1)))))
  (aH (eV (ab aw (ab dg (ab al (vt "abcdefghijklmnop") (vv 1)) (ab aw (vi 1) (ab aZ (vv 2) (vi 4)))) (ab al (vt "xyz") (ab aZ (ab aE (vv 2) (vi 4)) (vi 3)))))))
theorem rT(n:Nat):Ph (n+2) "_law_name"=cL 2 3 (k5 (Ph (n+1)) (Ph n)):=by kernel_rfl
def fJ (h x:Str->GF):ES:=(af (am 5 (eV (ae (pureOf (h "_law_mix")) (v2 (ae (pureOf (h "_law_cell_at")) (v2 (vv 0) (ab aw (vi 2) (vv 1)))) (ab aw (vi 2) (vv 4))))))
  (af (am 6 (eV (ab al (aQ (v4 (vi 0) (vi 0) (Dw vK (vi 1)) (vi 5))) (ab aZ (vv 5) (vi 4)))))
  (af (am 7 (eV (ab aw (vv 6) (ab al (aQ (v4 (vi 1) (vi 2) (vi 0) (vi 1))) (ab aZ (ab aE (vv 5) (vi 4)) (vi 4))))))
  (bP (bg (aa 3) (eV (aA (v4 (ae (pureOf (h "_law_name")) (v2 (vv 0) (ab aw (vi 2) (vv 4)))) (vv 6) (vv 7) (ab aw (vv 6) (ab aZ (ab aE (vv 5) (vi 16)) (ab aw (ab sD (vv 7) (vv 6)) (vi 1))))))))))))
def jW (h x:Str->GF):ES:=(af (am 3 (cv aO))
  (af (b6 (gL (ab aZ (ae (pureOf (h "_law_mix")) (v2 (ae (pureOf (h "_law_cell_at")) (v2 (vv 0) (ab aw (vi 2) (vv 1)))) (vi 1))) (ab aw (vv 2) (vi 1)))) (ag 4) (fJ h x))
  (aH (aa 3))))
theorem oZ(n:Nat):Ph (n+2) "_law_cells"=cL 3 8 (jW (Ph (n+1)) (Ph n)):=by kernel_rfl
def dN (x h:Str->GF):ES:=(af (d_ (ya (bV (az dC (aa 1) (eV (aQ aO)))) (bV (az dC (eV (ab aZ (vv 0) (vi 5))) (eV (vi 0))))) (aH (eV (aA (v2 (vt "number") (ab aZ (ab aE (vv 0) (vi 5)) (vi 3)))))) eO)
  (af (am 2 (eV (aA (v2 (vt "name") (ab al (vv 1) (ab aZ (ab aE (vv 0) (vi 5)) (dA (aa 1))))))))
  (af (d_ (bV (az dC (eV (ab aZ (vv 0) (vi 5))) (eV (vi 1)))) (aH (aa 2)) eO)
  (af (d_ (bV (az dC (eV (ab aZ (vv 0) (vi 5))) (eV (vi 2)))) (aH (eV (aA (v3 (vt "plus") (vv 2) (aA (v2 (vt "number") (ab aZ (ab aE (vv 0) (vi 20)) (vi 3)))))))) eO)
  (af (d_ (bV (az dC (eV (ab aZ (vv 0) (vi 5))) (eV (vi 3)))) (aH (eV (aA (v3 (vt "minus") (aA (v3 (vt "times") (vv 2) (aA (v2 (vt "number") (ab aZ (ab aE (vv 0) (vi 20)) (vi 3)))))) (aA (v2 (vt "number") (ab aZ (ab aE (vv 0) (vi 60)) (vi 2)))))))) eO)
  (aH (eV (aA (v3 (vt "minus") (aA (v2 (vt "number") (vi 1))) (vv 2))))))))))
theorem eU(n:Nat):Ph (n+2) "_law_sum"=cL 2 3 (dN (Ph (n+1)) (Ph n)):=by kernel_rfl
def bF (h x:Str->GF):ES:=(af (am 9 (eV (ab aE (vv 0) (ab al (aQ (v3 (vi 4) (vi 1000) (vi 100000))) (vv 8)))))
  (af (am 10 (eV (ae (pureOf (h "_law_sum")) (v2 (ab aZ (ab aE (vv 9) (vi 12)) (vi 300)) (vv 2)))))
  (af (am 11 (eV (ab al (aQ (v2 (vt "ma") (vt "mb"))) (ab aZ (vv 9) (vi 2)))))
  (d_ (fV (bV (az ma (aa 3) (eV (aQ aO)))) (bV (az dC (eV (ab aZ (ab aE (vv 9) (vi 2)) (vi 3))) (eV (vi 1))))) (bP (bg (aa 7) (eV (aA (v4 (vv 11) (vv 10) (vt "who") (ab al (vv 3) (ab aZ (ab aE (vv 9) (vi 50)) (dA (aa 3))))))))) (d_ (bV (az ma (aa 6) (eV (aQ aO)))) (bP (bg (aa 7) (eV (aA (v4 (vv 11) (vv 10) (ab al (aQ (v2 (vt "all") (vt "any"))) (ab dg (ab aZ (ab aE (vv 9) (vi 6)) (vi 2)) (ae bU (v1 (ab AN (vv 8) (vi 1)))))) (ab al (vv 6) (ab aZ (ab aE (vv 9) (vi 3)) (dA (aa 6))))))))) eO)))))
def jT (x h:Str->GF):ES:=(af (am 6 (eV (aU (gR (vv 4)) [] 1 (ag 12) (bV (az dC (eV (ab al (vv 12) (vi 0))) (aa 1))) (ab al (vv 12) (vi 1)))))
  (af (am 7 (cv aO))
  (af (b6 (gL (ab aZ (vv 0) (ab aw (vv 5) (vi 1)))) (ag 8) (bF x h))
  (aH (aa 7)))))
theorem oW(n:Nat):Ph (n+2) "_law_sends"=cL 6 12 (jT (Ph (n+1)) (Ph n)):=by kernel_rfl
def bY (h x:Str->GF):ES:=(af (d_ (ya (bV (az dC (aa 1) (eV (aQ aO)))) (bV (ab AN (ab aZ (vv 0) (vi 5)) (vi 2)))) (aH (eV (aA (v1 (vt "true"))))) eO)
  (af (am 2 (eV (ab al (aQ (v6 (vt "=") (vt "!=") (vt "<") (vt "<=") (vt ">") (vt ">="))) (ab aZ (ab aE (vv 0) (vi 5)) (vi 6)))))
  (af (am 3 (eV (aA (v4 (vt "is") (vv 2) (aA (v2 (vt "name") (ab al (vv 1) (ab aZ (ab aE (vv 0) (vi 30)) (dA (aa 1)))))) (ae (pureOf (h "_law_sum")) (v2 (ab aE (vv 0) (vi 90)) (vv 1)))))))
  (af (d_ (bV (az dC (eV (ab aZ (vv 0) (vi 5))) (eV (vi 2)))) (aH (eV (aA (v2 (vt "not") (vv 3))))) eO)
  (af (d_ (bV (az dC (eV (ab aZ (vv 0) (vi 5))) (eV (vi 3)))) (aH (eV (aA (v3 (vt "or") (vv 3) (aA (v3 (vt "and") (aA (v1 (vt "true"))) (aA (v4 (vt "is") (vt "=") (aA (v2 (vt "number") (vi 1))) (aA (v2 (vt "name") (ab al (vv 1) (vi 0)))))))))))) eO)
  (aH (aa 3)))))))
theorem cB(n:Nat):Ph (n+2) "_law_condition"=cL 2 4 (bY (Ph (n+1)) (Ph n)):=by kernel_rfl
def aL (x h:Str->GF):ES:=(d_ (fV (bV (az ma (aa 7) (eV (aQ aO)))) (bV (az dC (eV (ab aZ (ab al (vv 0) (vi 0)) (vi 3))) (eV (vi 1))))) (af (am 11 (eV (vt "")))
  (af (d_ (fV (bV (az ma (aa 6) (eV (aQ aO)))) (bV (az dC (eV (ab aZ (ab aE (ab al (vv 0) (vi 0)) (vi 3)) (vi 2))) (eV (vi 1))))) (af (am 11 (eV (ab al (vv 6) (Dw vK (vi 1)))))
  (am 9 (eV (lr (vv 6) gG (gc (Dw vK (vi 1))))))) eO)
  (af (am 12 (eV (vt "")))
  (af (d_ (fV (bV (az ma (aa 4) (eV (aQ aO)))) (bV (az dC (eV (ab aZ (ab aE (ab al (vv 0) (vi 0)) (vi 6)) (vi 2))) (eV (vi 1))))) (am 12 (eV (ab al (vv 4) (ab aZ (ab aE (ab al (vv 0) (vi 0)) (vi 200)) (dA (aa 4)))))) eO)
  (af (am 8 (eV (aA (v4 (ab al (aQ (v2 (vt "ma") (vt "mb"))) (ab aZ (ab aE (ab al (vv 0) (vi 0)) (vi 12)) (vi 2))) (ab al (vv 7) (ab aZ (ab aE (ab al (vv 0) (vi 0)) (vi 24)) (dA (aa 7)))) (vv 11) (vv 12)))))
  (am 10 (eV (aQ (v1 (vt "it")))))))))) eO)
def eM(h x:Str->GF):ES:=(d_ (bV (az dC (eV (ab aZ (ab aE (ab al (vv 0) (vi 1)) (ab al (aQ (v3 (vi 1) (vi 1000) (vi 1000000))) (vv 14))) (vi 2))) (eV (vi 1)))) (bP (bg (aa 13) (eV (aA (v2 (vv 15) (ae (pureOf (h "_law_sum")) (v2 (ab aZ (ab aE (ab al (vv 0) (vi 1)) (ab al (aQ (v3 (vi 2) (vi 2000) (vi 2000000))) (vv 14))) (vi 300)) (ab aw (vv 6) (vv 10))))))))) eO)
def k4 (h x:Str->GF):ES:=(af (am 6 (eV (aU (gR (vv 3)) [] 1 (ag 18) gQ (ab al (vv 18) (vi 0)))))
  (af (am 7 (eV (aU (gR (vv 5)) [] 1 (ag 18) (bV (az dC (eV (ab al (vv 18) (vi 1))) (aa 1))) (ab al (vv 18) (vi 0)))))
  (af (am 8 (eV (vC (.non))))
  (af (am 9 (eV (ae lU (v1 (vv 6)))))
  (af (am 10 (eV (aQ aO)))
  (af (aL h x)
  (af (am 13 (cv aO))
  (af (b6 (rJ (vv 9)) (aP [ag 14,ag 15]) (eM h x))
  (af (am 16 (eV (ae (pureOf (h "_law_sends")) (v6 (ab al (vv 0) (vi 2)) (vv 1) (ab aw (vv 6) (vv 10)) (vv 4) (vv 5) (ab aw (vi 2) (ae bU (v1 (ab FM (dA (aa 2)) (vi 3)))))))))
  (af (am 17 (eV (ae (pureOf (h "_law_condition")) (v2 (ab aZ (ab al (vv 0) (vi 3)) (vi 27000)) (vv 6)))))
  (aH (eV (aA (v6 (ab al (vv 2) (ab aZ (ab aE (ab al (vv 0) (vi 3)) (vi 27000)) (dA (aa 2)))) (vv 17) (vv 8) (vv 13) (vv 16) (ab al (vv 2) (ab aZ (ab aE (ab al (vv 0) (vi 3)) (vi 216000)) (dA (aa 2))))))))))))))))))
theorem rQ(n:Nat):Ph (n+2) "_law_step"=cL 6 18 (k4 (Ph (n+1)) (Ph n)):=by kernel_rfl
def fq (h x:Str->GF):ES:=(af (am 12 (eV (ab dg (vi 4) (ab aw (ab dg (vi 8) (vv 1)) (vv 11)))))
  (af (am 7 (eV (aU (gL (vi 4)) [] 1 (ag 13) gQ (ae (pureOf (h "_law_mix")) (v2 (ae (pureOf (h "_law_cell_at")) (v2 (vv 0) (ab aw (vi 5) (ab aZ (ab aw (vv 12) (vv 13)) (vi 24))))) (ab aw (ab aw (vi 11) (vv 12)) (vv 13)))))))
  (bP (bg (aa 10) (eV (ab aw (aA (v1 (ae (pureOf (h "_law_name")) (v2 (vv 0) (ab aw (vi 8) (vv 11)))))) (ae (pureOf (h "_law_step")) (v6 (vv 7) (vv 2) (vv 8) (vv 6) (vv 9) (vv 5)))))))))
def jt (h x:Str->GF):ES:=(af (am 6 (eV (ae (pureOf (h "_law_cells")) (v3 (vv 0) (vv 1) (ab aw (vi 2) (ae bU (v1 (vv 4))))))))
  (af (am 7 (eV (ae (pureOf (h "_law_mix")) (v2 (ae (pureOf (h "_law_cell_at")) (v2 (vv 0) (ab aw (vi 2) (vv 1)))) (vi 9)))))
  (af (am 8 (eV (aU (gL (ab aw (vi 1) (ab aZ (vv 7) (ab al (aQ (v2 (vi 3) (vi 8))) (ae bU (v1 (vv 4))))))) [11] 0 (ag 11) gQ (ae (pureOf (h "_law_name")) (v2 (vv 0) (ab aw (vi 4) (vv 11)))))))
  (af (am 7 (eV (ae (pureOf (h "_law_mix")) (v2 (ae (pureOf (h "_law_cell_at")) (v2 (vv 0) (ab aw (vi 2) (vv 1)))) (vi 8)))))
  (af (am 9 (eV (aU (gL (ab aZ (vv 7) (ab aw (vi 2) (ae bU (v1 (vv 4)))))) [11] 0 (ag 11) gQ (ae (pureOf (h "_law_name")) (v2 (vv 0) (ab aw (vi 10) (vv 11)))))))
  (af (am 10 (cv aO))
  (af (b6 (gL (ab aw (vi 1) (ab aZ (ae (pureOf (h "_law_mix")) (v2 (ae (pureOf (h "_law_cell_at")) (v2 (vv 0) (ab aw (vi 2) (vv 1)))) (vi 7))) (ab al (aQ (v2 (vi 3) (vi 8))) (ae bU (v1 (vv 4))))))) (ag 11) (fq h x))
  (aH (eV (aA (v6 (vv 2) (vv 3) (vv 8) (vv 6) (vv 9) (vv 10))))))))))))
theorem og(n:Nat):Ph (n+2) "_law_family"=cL 6 13 (jt (Ph (n+1)) (Ph n)):=by kernel_rfl
def ga (h x:Str->GF):ES:=(af (am 10 (eV (ab aw (vi 1) (ab aZ (ab aE (vv 2) (ab al (aQ (v4 (vi 4) (vi 12) (vi 16) (vi 16))) (vv 8))) (ab al (aQ (v4 (ab aw (vv 1) (ae bU (v1 (vv 3)))) (vi 2) (vi 1) (vi 1))) (ab sD (vv 4) (vi 1)))))))
  (bP (bg (aa 7) (eV (ae (pureOf (h "_law_family")) (v6 (vv 0) (vv 8) (vv 9) (vv 10) (vv 3) (vv 6)))))))
def f_ (h x:Str->GF):ES:=(af (am 12 (eV (ae (pureOf (h "_law_mix")) (v2 (ae (pureOf (h "_law_cell_at")) (v2 (vv 0) (vi 4))) (ab aw (vi 20) (vv 8))))))
  (af (am 13 (uP (aa 7) (ab aZ (vv 12) (vv 4))))
  (bP (bg (aa 11) (eV (aA (v3 (ab al (aQ (v2 (vt "weak") (vt "strong"))) (ab aZ (ab aE (vv 12) (vi 4)) (vi 2))) (ab al (vv 13) (vi 0)) (ab al (ab al (ab al (vv 13) (vi 5)) (ab aZ (ab aE (vv 12) (vi 8)) (dA (eV (ab al (vv 13) (vi 5)))))) (vi 0)))))))))
def iM (h x:Str->GF):ES:=(af (am 2 (eV (ae (pureOf (h "_law_cell_at")) (v2 (vv 0) (vi 0)))))
  (af (am 3 (eV (az dC (eV (ab aZ (ab aE (vv 2) (vi 64)) (vi 8))) (eV (vi 1)))))
  (af (am 4 (eV (ab aw (vi 1) (ab aZ (vv 2) (ab al (aQ (v2 (vi 2) (vi 4))) (ae bU (v1 (vv 3))))))))
  (af (am 5 (eV (aU (gL (vv 4)) [8] 0 (ag 8) gQ (ae (pureOf (h "_law_name")) (v2 (vv 0) (vv 8))))))
  (af (am 6 (eV (ae (pureOf (h "_law_roads")) (v3 (vv 0) (vv 5) (ab aw (vi 2) (ae bU (v1 (vv 3))))))))
  (af (am 7 (cv aO))
  (af (b6 (rJ (vv 5)) (aP [ag 8,ag 9]) (ga h x))
  (af (am 11 (cv aO))
  (af (b6 (gL (ab aw (ab aZ (ab aE (vv 2) (vi 48)) (vi 3)) (ab dg (vi 4) (ae bU (v1 (vB (fV (bV (vv 3)) (bV (az dC (eV (ab aZ (vv 2) (vi 3))) (eV (vi 1))))))))))) (ag 8) (f_ h x))
  (aH (eV (aA (v3 (vv 7) (vv 6) (vv 11))))))))))))))
theorem rR(n:Nat):Ph (n+2) "_law_plan"=cL 2 14 (iM (Ph (n+1)) (Ph n)):=by kernel_rfl
def d7(x h:Str->GF):ES:=(am 1 (eV (ab aw (vv 1) (ab dg (aQ (v1 (vv 2))) (ab al (vv 2) (vi 1))))))
def io (x h:Str->GF):ES:=(af (am 1 (eV (aQ aO)))
  (af (b6 (gR (ab al (vv 0) (vi 0))) (ag 2) (d7 x h))
  (aH (aa 1))))
theorem lL(n:Nat):Ph (n+2) "_law_families"=cL 1 3 (io (Ph (n+1)) (Ph n)):=by kernel_rfl
def k6(h x:Str->GF):ES:=(aH (eV (aU (rJ (ae (pureOf (h "_law_families")) (v1 (vv 0)))) [] 2 (aP [ag 2,ag 3]) (bV (az dC (eV (ab al (vv 3) (vi 0))) (aa 1))) (vv 2))))
theorem rV(n:Nat):Ph (n+2) "_law_crew"=cL 2 2 (k6 (Ph (n+1)) (Ph n)):=by kernel_rfl
def dU(x h:Str->GF):ES:=(d_ (bV (az ma (aa 3) (aa 4))) (bP (bg (aa 1) (eV (aA (v3 (vv 2) (vv 3) (vv 4)))))) eO)
def im(h x:Str->GF):ES:=(b6 (gR (ae (pureOf (h "_law_crew")) (v2 (vv 0) (ab al (vv 2) (vi 1))))) (ag 4) (dU h x))
def il(h x:Str->GF):ES:=(b6 (gR (ae (pureOf (h "_law_crew")) (v2 (vv 0) (ab al (vv 2) (vi 0))))) (ag 3) (im h x))
def jV (x h:Str->GF):ES:=(af (am 1 (cv aO))
  (af (b6 (gR (ab al (vv 0) (vi 1))) (ag 2) (il x h))
  (aH (aa 1))))
theorem oY(n:Nat):Ph (n+2) "_law_pairs"=cL 1 5 (jV (Ph (n+1)) (Ph n)):=by kernel_rfl
def cR(x h:Str->GF):ES:=(bP (bg (aa 7) (eV (ab aw (ab al (vv 9) (vi 1)) (ab aZ (ab aE (vv 6) (ab al (aQ (v3 (vi 8) (vi 32) (vi 128))) (vv 8))) (ab aw (ab sD (ab al (vv 9) (vi 2)) (ab al (vv 9) (vi 1))) (vi 1)))))))
def cQ(x h:Str->GF):ES:=(bP (bg (aa 10) (eV (ab sD (ab aZ (ab aE (vv 6) (ab al (aQ (v2 (vi 512) (vi 4096))) (vv 8))) (ab aw (dA (aa 3)) (vi 1))) (vi 1)))))
def cP (h x:Str->GF):ES:=(af (am 6 (eV (ae (pureOf (h "_law_mix")) (v2 (ae (pureOf (h "_law_cell_at")) (v2 (vv 0) (ab aw (vi 29) (vv 4)))) (vi 31)))))
  (af (am 7 (cv aO))
  (af (b6 (rJ (ab al (vv 5) (vi 3))) (aP [ag 8,ag 9]) (cR h x))
  (af (am 10 (cv aO))
  (af (b6 (gL (dA (eV (ab al (vv 5) (vi 4))))) (ag 8) (cQ h x))
  (bP (bg (aa 2) (eV (aA (v3 (ab aZ (vv 6) (dA (eV (ab al (vv 5) (vi 2))))) (ae bD (v1 (vv 7))) (ae bD (v1 (vv 10)))))))))))))
def cO (x h:Str->GF):ES:=(af (am 15 (eV (ab aw (ab sD (ab aZ (ab aE (vv 6) (ab al (aQ (v3 (vi 8) (vi 800) (vi 80000))) (vv 8))) (vi 4)) (vi 1)) (ab al (aQ (v4 (vi 0) (vi 997) (vi 0) (Dw vK (vi 998)))) (ab aZ (ab aE (vv 6) (vi 8000000)) (vi 4))))))
  (bP (bg (aa 14) (eV (aA (v2 (ab al (aQ (v2 (vt "ma") (vt "mb"))) (ab aZ (ab aE (vv 6) (ab al (aQ (v3 (vi 4) (vi 400) (vi 40000))) (vv 8))) (vi 2))) (vv 15)))))))
def cN (h x:Str->GF):ES:=(af (am 6 (eV (ae (pureOf (h "_law_mix")) (v2 (ae (pureOf (h "_law_cell_at")) (v2 (vv 0) (ab aw (vi 34) (ab aZ (vv 12) (vi 20))))) (ab aw (vi 33) (ab aE (vv 12) (vi 20)))))))
  (af (am 14 (cv aO))
  (af (b6 (gL (ab aZ (vv 6) (ab aw (ab al (ab al (vv 13) (vi 0)) (vi 3)) (vi 1)))) (ag 8) (cO h x))
  (af (d_ (bV (az dC (eV (ab al (ab al (vv 13) (vi 0)) (vi 2))) (eV (vt "heap")))) (am 14 (eV (pB (aa 14)))) eO)
  (bP (bg (aa 11) (eV (ae bD (v1 (vv 14))))))))))
def fH (h x:Str->GF):ES:=(af (am 2 (cv aO))
  (af (am 3 (eV (ae (pureOf (h "_law_families")) (v1 (vv 1)))))
  (af (b6 (rJ (vv 3)) (aP [ag 4,ag 5]) (cP h x))
  (af (am 11 (cv aO))
  (af (b6 (rJ (ae (pureOf (h "_law_pairs")) (v1 (vv 1)))) (aP [ag 12,ag 13]) (cN h x))
  (aH (eV (aA (v2 (ae bD (v1 (vv 2))) (ae bD (v1 (vv 11))))))))))))
theorem lK(n:Nat):Ph (n+2) "_law_standing"=cL 2 16 (fH (Ph (n+1)) (Ph n)):=by kernel_rfl
def eR(x h:Str->GF):ES:=(bP (dP (aa 1) (ab dg (aQ (v1 (vv 2))) (ab al (vv 3) (vi 1)))))
def iY (x h:Str->GF):ES:=(af (am 1 (cv aO))
  (af (b6 (rJ (ab al (vv 0) (vi 0))) (aP [ag 2,ag 3]) (eR x h))
  (aH (aa 1))))
theorem mx(n:Nat):Ph (n+2) "families_of"=cL 1 4 (iY (Ph (n+1)) (Ph n)):=by kernel_rfl
def eL (x h:Str->GF):ES:=(d_ (bV (az dC (aa 5) (eV (ab al (vv 3) (vi 0))))) (af (am 6 (eV (aU (gL (dA (aa 1))) [] 1 (ag 7) (fV (bV (az ma (aa 7) (aa 4))) (bV (az dC (eV (ab al (vv 1) (vv 7))) (eV (ab al (vv 3) (vi 1)))))) (vv 7))))
  (bP (dP (aa 2) (aU (gR (vv 6)) [] 1 (ag 7) gQ (aA (v3 (vv 3) (vv 4) (vv 7))))))) eO)
def iX(x h:Str->GF):ES:=(b6 (rJ (vv 1)) (aP [ag 4,ag 5]) (eL x h))
def kZ (h x:Str->GF):ES:=(af (am 1 (eV (aU (gR (ae (pureOf (h "families_of")) (v1 (vv 0)))) [] 1 (ag 7) gQ (ab al (ab al (ab al (vv 0) (vi 0)) (vv 7)) (vi 0)))))
  (af (am 2 (cv aO))
  (af (b6 (gR (ab al (vv 0) (vi 1))) (ag 3) (iX h x))
  (aH (aa 2)))))
theorem rO(n:Nat):Ph (n+2) "pairs_of"=cL 1 7 (kZ (Ph (n+1)) (Ph n)):=by kernel_rfl
def iR (x h:Str->GF):ES:=(af (am 3 (eV (ab al (ab al (ab al (vv 0) (vi 0)) (vv 2)) (vi 3))))
  (af (am 4 (eV (ab al (ab al (ab al (vv 0) (vi 0)) (vv 2)) (vi 4))))
  (bP (bg (aa 1) (eV (aA (v3 (vi 0) (ae bD (v1 (aU (gR (vv 3)) [] 1 (ag 5) gQ (ab al (vv 5) (vi 3))))) (ab dg (aA (v1 (vi (-1)))) (dA (aa 4))))))))))
def p' (h x:Str->GF):ES:=(af (am 1 (cv aO))
  (af (b6 (gR (ae (pureOf (h "families_of")) (v1 (vv 0)))) (ag 2) (iR h x))
  (aH (eV (aA (v2 (ae bD (v1 (vv 1))) (ab dg (aA (v1 (aA aO))) (dA (eV (ae (pureOf (h "pairs_of")) (v1 (vv 0))))))))))))
theorem xW(n:Nat):Ph (n+2) "begin"=cL 1 5 (p' (Ph (n+1)) (Ph n)):=by kernel_rfl
def iQ (x h:Str->GF):ES:=(af (d_ (bV (az dC (aa 1) (eV (vt "lose")))) (aH (eV (ab al (vv 0) (vi 4)))) eO)
  (aH (eV (vB (fV (bV (ab al (vv 0) (vi 5))) (bV (ab AN (dA (aa 2)) (ab al (vv 0) (vi 3)))))))))
theorem kS(n:Nat):Ph (n+2) "has_flaw"=cL 3 3 (iQ (Ph (n+1)) (Ph n)):=by kernel_rfl
def ce (x h:Str->GF):ES:=(af (am 2 (eV (Ft (dA (aa 1)))))
  (af (d_ (bV (az dC (aa 0) (eV (vt "row")))) (aH (aa 2)) eO)
  (aH (eV (aU (gR (vv 2)) [] 1 (ag 3) (bV (az dC (eV (oK (vv 1) (ab al (vv 1) (vv 3)))) (aa 3))) (vv 3))))))
theorem cV(n:Nat):Ph (n+2) "unlike_spots"=cL 2 3 (ce (Ph (n+1)) (Ph n)):=by kernel_rfl
def fm(x h:Str->GF):ES:=(aH (eV (ab aw (ab aw (lr (vv 0) gG (gc (vv 1))) (aA (v1 (vv 2)))) (lr (vv 0) (gc (ab aw (vv 1) (vi 1))) gG))))
theorem gn(n:Nat):Ph (n+2) "replaced"=cL 3 3 (fm (Ph (n+1)) (Ph n)):=by kernel_rfl
def fU(x h:Str->GF):ES:=(aH (eV (ab aw (lr (vv 0) gG (gc (vv 1))) (lr (vv 0) (gc (ab aw (vv 1) (vi 1))) gG))))
theorem g6(n:Nat):Ph (n+2) "without"=cL 2 2 (fU (Ph (n+1)) (Ph n)):=by kernel_rfl
def ko (h x:Str->GF):ES:=(af (d_ (bV (az dC (aa 0) (eV (vt "lose")))) (aH (eV (ae (pureOf (h "without")) (v2 (vv 1) (vv 2))))) eO)
  (aH (eV (ab aw (lr (vv 1) gG (gc (ab aw (vv 2) (vi 1)))) (lr (vv 1) (gc (vv 2)) gG)))))
theorem oh(n:Nat):Ph (n+2) "flawed"=cL 3 3 (ko (Ph (n+1)) (Ph n)):=by kernel_rfl
def fL (h x:Str->GF):ES:=(af (am 11 (eV (ae (pureOf (h "replaced")) (v3 (ab al (vv 1) (vi 1)) (vv 4) (ae (pureOf (h "flawed")) (v3 (vv 2) (vv 9) (vv 10)))))))
  (bP (bg (aa 3) (eV (aA (v2 (aA (v4 (vv 2) (vv 7) (vv 8) (vv 10))) (aA (v2 (ab al (vv 1) (vi 0)) (vv 11)))))))))
def dW (h x:Str->GF):ES:=(af (tj (aP [ag 6,ag 7,ag 8]) (vv 5))
  (af (am 9 (eV (ab al (ab al (vv 1) (vi 1)) (vv 4))))
  (d_ (bT (eV (ae (pureOf (h "has_flaw")) (v3 (vv 6) (vv 2) (vv 9))))) (b6 (gR (ae (pureOf (h "unlike_spots")) (v2 (ab al (vv 6) (vi 2)) (vv 9)))) (ag 10) (fL h x)) eO)))
def hV (x h:Str->GF):ES:=(af (am 3 (cv aO))
  (af (b6 (rJ (vE (dM (aT Att) (aa 0) "pairs"))) (aP [ag 4,ag 5]) (dW x h))
  (aH (aa 3))))
theorem o0(n:Nat):Ph (n+2) "flaw_ends"=cL 3 12 (hV (Ph (n+1)) (Ph n)):=by kernel_rfl
def cS(x h:Str->GF):ES:=(aH (uP (dM (aT Att) (aa 0) "families") (vE (uP (dM (aT Att) (aa 0) "homes") (vv 1)))))
theorem b_(n:Nat):Ph (n+2) "Board.family_of"=cL 2 2 (cS (Ph (n+1)) (Ph n)):=by kernel_rfl
def eC(x h:Str->GF):ES:=(aH (rW (aU (gR (ab al (vv 0) (vi 3))) [] 1 (ag 2) gQ (ab al (vv 2) (vi 0))) (vv 1)))
theorem fO(n:Nat):Ph (n+2) "values_of"=cL 2 2 (eC (Ph (n+1)) (Ph n)):=by kernel_rfl
def bM (x h:Str->GF):ES:=(af (d_ (bV (az dC (aa 0) (eV (vt "=")))) (aH (eV (az dC (aa 1) (aa 2)))) eO)
  (af (d_ (bV (az dC (aa 0) (eV (vt "!=")))) (aH (eV (az ma (aa 1) (aa 2)))) eO)
  (af (d_ (bV (az dC (aa 0) (eV (vt "<")))) (aH (eV (ab AN (vv 1) (vv 2)))) eO)
  (af (d_ (bV (az dC (aa 0) (eV (vt "<=")))) (aH (eV (ab Ic (vv 1) (vv 2)))) eO)
  (af (d_ (bV (az dC (aa 0) (eV (vt ">")))) (aH (eV (ab FM (vv 1) (vv 2)))) eO)
  (aH (eV (ab Ie (vv 1) (vv 2)))))))))
theorem gp(n:Nat):Ph (n+2) "compared"=cL 3 3 (bM (Ph (n+1)) (Ph n)):=by kernel_rfl
def bK (h x:Str->GF):ES:=(af (am 2 (eV (ab al (vv 0) (vi 0))))
  (af (d_ (bV (az dC (aa 2) (eV (vt "number")))) (aH (eV (ab al (vv 0) (vi 1)))) eO)
  (af (d_ (bV (az dC (aa 2) (eV (vt "name")))) (aH (eV (ab al (vv 1) (ab al (vv 0) (vi 1))))) eO)
  (af (am 3 (eV (ae (pureOf (h "value_of")) (v2 (ab al (vv 0) (vi 1)) (vv 1)))))
  (af (am 4 (eV (ae (pureOf (h "value_of")) (v2 (ab al (vv 0) (vi 2)) (vv 1)))))
  (af (d_ (bV (az dC (aa 2) (eV (vt "plus")))) (aH (eV (ab aw (vv 3) (vv 4)))) eO)
  (af (d_ (bV (az dC (aa 2) (eV (vt "minus")))) (aH (eV (ab sD (vv 3) (vv 4)))) eO)
  (aH (eV (ab dg (vv 3) (vv 4)))))))))))
theorem cA(n:Nat):Ph (n+2) "value_of"=cL 2 5 (bK (Ph (n+1)) (Ph n)):=by kernel_rfl
def dq (h x:Str->GF):ES:=(af (am 2 (eV (ab al (vv 0) (vi 0))))
  (af (d_ (bV (az dC (aa 2) (eV (vt "true")))) (aH (eV (vC (.bl true)))) eO)
  (af (d_ (bV (az dC (aa 2) (eV (vt "not")))) (aH (eV (vB (mI (bV (ae (pureOf (h "holds")) (v2 (ab al (vv 0) (vi 1)) (vv 1)))))))) eO)
  (af (d_ (bV (az dC (aa 2) (eV (vt "and")))) (aH (eV (vB (fV (bV (ae (pureOf (h "holds")) (v2 (ab al (vv 0) (vi 1)) (vv 1)))) (bV (ae (pureOf (h "holds")) (v2 (ab al (vv 0) (vi 2)) (vv 1)))))))) eO)
  (af (d_ (bV (az dC (aa 2) (eV (vt "or")))) (aH (eV (vB (ya (bV (ae (pureOf (h "holds")) (v2 (ab al (vv 0) (vi 1)) (vv 1)))) (bV (ae (pureOf (h "holds")) (v2 (ab al (vv 0) (vi 2)) (vv 1)))))))) eO)
  (aH (eV (ae (pureOf (h "compared")) (v3 (ab al (vv 0) (vi 1)) (ae (pureOf (h "value_of")) (v2 (ab al (vv 0) (vi 2)) (vv 1))) (ae (pureOf (h "value_of")) (v2 (ab al (vv 0) (vi 3)) (vv 1))))))))))))
theorem eW(n:Nat):Ph (n+2) "holds"=cL 2 3 (dq (Ph (n+1)) (Ph n)):=by kernel_rfl
def bv(x h:Str->GF):ES:=(aH (eV (aU (gR (vE (uP (dM (aT Att) (aa 0) "members") (vv 2)))) [] 1 (ag 3) (bV (az ma (aa 3) (aa 1))) (vv 3))))
theorem cc(n:Nat):Ph (n+2) "Board.hands_beside"=cL 3 3 (bv (Ph (n+1)) (Ph n)):=by kernel_rfl
def dh (h x:Str->GF):ES:=(af (am 6 (vD (dM (aT Att) (aa 0) "places") (v2 (vv 5) (vv 2))))
  (af (am 7 (uP (uP (uP (dM (aT Att) (aa 0) "pairs") (vv 6)) (vi 0)) (vi 2)))
  (af (am 8 (eV (ab al (vv 1) (vv 6))))
  (af (am 9 (eV (Cw (bV (az dC (aa 7) (eV (vt "row")))) (lr (Ft (dA (aa 8))) gG (gc (vi 1))) (ae (pureOf (h "unlike_spots")) (v2 (vv 7) (vv 8))))))
  (bP (dP (aa 4) (aU (gR (vv 9)) [] 1 (ag 10) (bV (az dC (eV (ab al (ab al (vv 8) (vv 10)) (vi 0))) (eV (ab al (vv 3) (vi 0))))) (aA (v2 (vv 5) (vv 10))))))))))
def db (h x:Str->GF):ES:=(af (d_ (bV (az pS (aa 3) (eV (vC (.non))))) (aH (eV (aQ (v1 (vC (.non)))))) eO)
  (af (am 4 (cv aO))
  (af (b6 (gR (vE (dB (mT Tb h) (aa 0) "hands_beside" (ac (aa 2) (ac (eV (ab al (vv 3) (vi 1))) ba))))) (ag 5) (dh h x))
  (aH (aa 4)))))
theorem fj(n:Nat):Ph (n+2) "takeable"=cL 4 10 (db (Ph (n+1)) (Ph n)):=by kernel_rfl
def d8(h x:Str->GF):ES:=(fw (aa 4) (vv 5) (ae (pureOf (h "value_of")) (v2 (vv 6) (vv 3))))
def aI (x h:Str->GF):ES:=(af (am 10 (eV (v0 (vv 4) (ab al (vv 9) (vi 0)) (ab al (vv 1) (vv 8)))))
  (af (d_ (fV (bV (az C0 (eV (ab al (vv 9) (vi 0))) (aa 4))) (mI (bV (lu Ic Ic (ab al (vv 9) (vi 1)) (vv 10) (ab al (vv 9) (vi 2)))))) (aH (eV (vC (.non)))) eO)
  (bP (bg (aa 7) (aa 10)))))
def bG (x h:Str->GF):ES:=(af (am 4 mh)
  (af (b6 (gR (ab al (vv 2) (vi 4))) (aP [ag 5,ag 6]) (d8 x h))
  (af (d_ (fV (bV (az c_ (eV (ab al (vv 2) (vi 3))) (eV (vC (.non))))) (bV (az ma (eV (ab al (ab al (vv 2) (vi 3)) (vi 2))) (eV (vt ""))))) (fw (aa 4) (ab al (ab al (vv 2) (vi 3)) (vi 2)) (ab al (vv 3) (vt "it"))) eO)
  (af (am 7 (cv aO))
  (af (b6 (rJ (ab al (vv 0) (vi 3))) (aP [ag 8,ag 9]) (aI x h))
  (aH (eV (ae bD (v1 (vv 7))))))))))
theorem cX(n:Nat):Ph (n+2) "cells_behind"=cL 4 11 (bG (Ph (n+1)) (Ph n)):=by kernel_rfl
def bA (h x:Str->GF):ES:=(af (d_ (ya (bV (az pS (aa 2) (eV (vC (.non))))) (bV (az dC (eV (ab al (vv 2) (vi 3))) (eV (vt ""))))) (aH (aa 1)) eO)
  (aH (eV (ae (pureOf (h "replaced")) (v3 (vv 1) (oK (ab al (vv 0) (vi 4)) (ab al (vv 2) (vi 3))) (ab al (vv 3) (vi 0)))))))
theorem cx(n:Nat):Ph (n+2) "whos_behind"=cL 4 4 (bA (Ph (n+1)) (Ph n)):=by kernel_rfl
def bW (h x:Str->GF):ES:=(af (d_ (bV (az dC (aa 2) (eV (vt "who")))) (aH (eV (aQ (v1 (aA (v2 (aA aO) (aQ (v1 (ab al (vv 4) (oK (ab al (vE (dB (mT Tb h) (aa 0) "family_of" (ac (aa 1) ba))) (vi 4)) (vv 3))))))))))) eO)
  (af (am 5 (dB (mT Tb h) (aa 0) "hands_beside" (ac (aa 1) (ac (aa 3) ba))))
  (af (d_ (bV (az dC (aa 2) (eV (vt "all")))) (aH (eV (aQ (v1 (aA (v2 (aA aO) (vv 5))))))) eO)
  (aH (eV (aU (gR (vv 5)) [] 1 (ag 6) gQ (aA (v2 (aA (v1 (vv 6))) (aQ (v1 (vv 6)))))))))))
theorem cW(n:Nat):Ph (n+2) "targets_of"=cL 5 6 (bW (Ph (n+1)) (Ph n)):=by kernel_rfl
def eD (h x:Str->GF):ES:=(af (am 6 (uf (dM (aT Att) (aa 0) "places") (v2 (vv 2) (vv 5))))
  (af (d_ (ya (bV (az pS (aa 6) (eV (vC (.non))))) (bV (ab FM (ae mn (v1 (ab al (vv 4) (vi 1)))) (vi 999)))) (aH (eV (vC (.non)))) eO)
  (af (am 7 (uP (uP (dM (aT Att) (aa 0) "pairs") (vv 6)) (vi 0)))
  (af (d_ (bV (ab Ie (dA (eV (ab al (vv 1) (vv 6)))) (ab al (vv 7) (vi 3)))) (aH (eV (vC (.non)))) eO)
  (af (am 8 (eV (ab aw (ab al (vv 1) (vv 6)) (aA (v1 (vv 4))))))
  (af (d_ (bV (az dC (eV (ab al (vv 7) (vi 2))) (eV (vt "heap")))) (am 8 (eV (ae bD (v1 (pB (aa 8)))))) eO)
  (am 1 (eV (ae (pureOf (h "replaced")) (v3 (vv 1) (vv 6) (vv 8)))))))))))
def eQ (x h:Str->GF):ES:=(af (b6 (gR (vv 3)) (ag 5) (eD x h))
  (aH (aa 1)))
theorem gN(n:Nat):Ph (n+2) "posted"=cL 5 9 (eQ (Ph (n+1)) (Ph n)):=by kernel_rfl
def eK (h x:Str->GF):ES:=(af (am 17 (eV (cF (h "posted") (ac (aa 0) (ac (aa 14) (ac (aa 1) (ac (aa 16) (ac (aa 11) ba))))))))
  (d_ (bV (az c_ (aa 17) (eV (vC (.non))))) (bP (bg (aa 12) (eV (aA (v2 (ab aw (vv 13) (vv 15)) (vv 17)))))) eO))
def di(h x:Str->GF):ES:=(b6 (gR (cF (h "targets_of") (ac (aa 0) (ac (aa 1) (ac (aa 9) (ac (aa 10) (ac (aa 5) ba))))))) (aP [ag 15,ag 16]) (eK h x))
def eJ (h x:Str->GF):ES:=(af (am 11 (eV (aA (v2 (vv 7) (ae (pureOf (h "value_of")) (v2 (vv 8) (vv 3)))))))
  (af (am 12 (cv aO))
  (af (b6 (gR (vv 6)) (aP [ag 13,ag 14]) (di h x))
  (am 6 (aa 12)))))
def dS (x h:Str->GF):ES:=(af (am 6 (eV (aQ (v1 (aA (v2 (aA aO) (vv 4)))))))
  (af (b6 (gR (vv 2)) (aP [ag 7,ag 8,ag 9,ag 10]) (eJ x h))
  (aH (aa 6))))
theorem gm(n:Nat):Ph (n+2) "sendings"=cL 6 18 (dS (Ph (n+1)) (Ph n)):=by kernel_rfl
def fG(x h:Str->GF):ES:=(bP (bg (aa 13) (eV (aA (v2 (aA (v5 (vt "step") (vv 2) (ab al (vv 3) (vi 0)) (vv 4) (vv 14))) (aA (v2 (vv 12) (vv 15))))))))
def bL (h x:Str->GF):ES:=(af (am 5 (dB (mT Tb h) (aa 0) "family_of" (ac (aa 2) ba)))
  (af (tj (aP [ag 6,ag 7,ag 8]) (ab al (ab al (vv 1) (vi 0)) (vv 2)))
  (af (am 9 (eV (ab al (vv 1) (vi 1))))
  (af (am 10 (f6 (h "values_of") (ac (aa 5) (ac (aa 7) ba))))
  (af (d_ (bV (az c_ (aa 4) (eV (vC (.non))))) (af (am 11 (vD (dM (aT Att) (aa 0) "places") (v2 (ab al (vv 4) (vi 0)) (vv 2))))
  (af (fw (aa 10) (vt "it") (ab al (ab al (ab al (vv 9) (vv 11)) (ab al (vv 4) (vi 1))) (vi 1)))
  (am 9 (eV (ae (pureOf (h "replaced")) (v3 (vv 9) (vv 11) (ae (pureOf (h "without")) (v2 (ab al (vv 9) (vv 11)) (ab al (vv 4) (vi 1)))))))))) eO)
  (af (am 7 (eV (ae (pureOf (h "cells_behind")) (v4 (vv 5) (vv 7) (vv 3) (vv 10)))))
  (af (d_ (bV (az pS (aa 7) (eV (vC (.non))))) (aH (eV (aQ aO))) eO)
  (af (am 8 (eV (ae (pureOf (h "whos_behind")) (v4 (vv 5) (vv 8) (ab al (vv 3) (vi 3)) (vv 4)))))
  (af (am 12 (eV (ae (pureOf (h "replaced")) (v3 (ab al (vv 1) (vi 0)) (vv 2) (aA (v3 (oK (ab al (vv 5) (vi 2)) (ab al (vv 3) (vi 6))) (vv 7) (vv 8)))))))
  (af (am 13 (cv aO))
  (af (b6 (gR (cF (h "sendings") (ac (aa 0) (ac (aa 2) (ac (eV (ab al (vv 3) (vi 5))) (ac (aa 10) (ac (aa 9) (ac (aa 8) ba)))))))) (aP [ag 14,ag 15]) (fG h x))
  (aH (aa 13)))))))))))))
theorem eB(n:Nat):Ph (n+2) "step_ends"=cL 5 16 (bL (Ph (n+1)) (Ph n)):=by kernel_rfl
def fK(h x:Str->GF):ES:=(bP (dP (aa 8) (cF (h "step_ends") (ac (aa 0) (ac (aa 1) (ac (aa 2) (ac (aa 9) (ac (aa 10) ba))))))))
def cf(h x:Str->GF):ES:=(d_ (fV (bV (az dC (eV (ab al (vv 9) (vi 1))) (eV (ab al (ab al (vv 3) (vi 2)) (vv 4))))) (bT (eV (ae (pureOf (h "holds")) (v2 (ab al (vv 9) (vi 2)) (vv 7)))))) (b6 (gR (cF (h "takeable") (ac (aa 0) (ac (eV (ab al (vv 1) (vi 1))) (ac (aa 2) (ac (eV (ab al (vv 9) (vi 3))) ba)))))) (ag 10) (fK h x)) eO)
def cI (h x:Str->GF):ES:=(af (am 3 (dB (mT Tb h) (aa 0) "family_of" (ac (aa 2) ba)))
  (af (tj (aP [ag 4,ag 5,ag 6]) (ab al (ab al (vv 1) (vi 0)) (vv 2)))
  (af (am 7 (eV (ae (pureOf (h "values_of")) (v2 (vv 3) (vv 5)))))
  (af (am 8 (cv aO))
  (af (b6 (gR (ab al (vv 3) (vi 5))) (ag 9) (cf h x))
  (aH (aa 8)))))))
theorem fP(n:Nat):Ph (n+2) "hand_ends"=cL 3 11 (cI (Ph (n+1)) (Ph n)):=by kernel_rfl
def ju(h x:Str->GF):ES:=(bP (dP (aa 2) (cF (h "hand_ends") (ac (aa 0) (ac (aa 1) (ac (aa 3) ba))))))
def jv (h x:Str->GF):ES:=(af (am 2 (cv aO))
  (af (b6 (gL (dA (dM (aT Att) (aa 0) "homes"))) (ag 3) (ju h x))
  (af (bP (dP (aa 2) (cF (h "flaw_ends") (ac (aa 0) (ac (aa 1) (ac (eV (vt "lose")) ba))))))
  (af (bP (dP (aa 2) (cF (h "flaw_ends") (ac (aa 0) (ac (aa 1) (ac (eV (vt "double")) ba))))))
  (aH (aa 2))))))
theorem ud(n:Nat):Ph (n+2) "ends_on"=cL 2 4 (jv (Ph (n+1)) (Ph n)):=by kernel_rfl
def bZ(h x:Str->GF):ES:=(bP (bg (m_ (dM (aT Att) (aa 0) "members") (ab al (vE (dB (mT Tb h) (aa 0) "family_of" (ac (aa 4) ba))) (vi 0)) (cv aO)) (aa 4)))
def fu(x h:Str->GF):ES:=(wg (dM (aT Att) (aa 0) "places") (v2 (ab al (vv 3) (vi 1)) (ab al (vv 3) (vi 2))) (vv 2))
def gP (h x:Str->GF):ES:=(af (kD (aT Att) (aa 0) "families" (eV (ab al (vv 1) (vi 0))))
  (af (kD (aT Att) (aa 0) "homes" (f6 (h "families_of") (ac (aa 1) ba)))
  (af (kD (aT Att) (aa 0) "pairs" (f6 (h "pairs_of") (ac (aa 1) ba)))
  (af (kD (aT Att) (aa 0) "places" rX)
  (af (b6 (rJ (vE (dM (aT Att) (aa 0) "pairs"))) (aP [ag 2,ag 3]) (fu h x))
  (af (kD (aT Att) (aa 0) "members" mh)
  (b6 (gL (dA (dM (aT Att) (aa 0) "homes"))) (ag 4) (bZ h x))))))))
theorem oj(n:Nat):Ph (n+2) "Board.__init__"=cL 2 5 (gP (Ph (n+1)) (Ph n)):=by kernel_rfl
def jX(x h:Str->GF):ES:=(aH (eV (cF (x "ends_on") (ac (pT (h "Board.__init__") "Board" (ac (aa 0) ba)) (ac (aa 1) ba)))))
theorem o1(n:Nat):Ph (n+2) "ends_from"=cL 2 2 (jX (Ph (n+1)) (Ph n)):=by kernel_rfl
def fo (h x:Str->GF):ES:=(af (d_ (bV (az ma (eV (ab al (vv 1) (vi 0))) (eV (vt "step")))) (aH (eV (vC (.bl false)))) eO)
  (af (am 2 (eV (aU (gR (ab al (ab al (ae (pureOf (h "_law_families")) (v1 (vv 0))) (ab al (vv 1) (vi 1))) (vi 5))) [] 1 (ag 3) (bV (az dC (eV (ab al (vv 3) (vi 0))) (eV (ab al (vv 1) (vi 2))))) (vv 3))))
  (aH (eV (vB (fV (bV (az pS (eV (ab al (ab al (vv 2) (vi 0)) (vi 3))) (eV (vC (.non))))) (bV (az dC (eV (ab al (ab al (vv 2) (vi 0)) (vi 5))) (eV (aQ aO))))))))))
theorem jk(n:Nat):Ph (n+2) "_law_is_own"=cL 2 3 (fo (Ph (n+1)) (Ph n)):=by kernel_rfl
def dj (h x:Str->GF):ES:=(af (am 4 (eV (aU (gL (dA (eV (ab al (vv 1) (vi 0))))) [] 1 (ag 5) (bV (az ma (eV (ab al (ab al (vv 1) (vi 0)) (vv 5))) (eV (ab al (ab al (vv 3) (vi 0)) (vv 5))))) (vv 5))))
  (af (d_ (fV (bV (az ma (eV (ab al (vv 2) (vi 0))) (eV (vt "step")))) (bV (az ma (aa 4) (eV (aQ aO))))) (aH (eV (vC (.bl false)))) eO)
  (af (d_ (fV (bV (az dC (eV (ab al (vv 2) (vi 0))) (eV (vt "step")))) (bV (az n2 (aa 4) (eV (aQ (v2 (aQ aO) (aQ (v1 (ab al (vv 2) (vi 1)))))))))) (aH (eV (vC (.bl false)))) eO)
  (aH (eV (vB (ya (mI (bV (ae (pureOf (h "_law_is_own")) (v2 (vv 0) (vv 2))))) (bV (az dC (eV (ab al (vv 1) (vi 1))) (eV (ab al (vv 3) (vi 1))))))))))))
theorem iV(n:Nat):Ph (n+2) "_law_touches"=cL 4 5 (dj (Ph (n+1)) (Ph n)):=by kernel_rfl
def gw(x h:Str->GF):ES:=(d_ (bV (az dC (aa 3) (aa 2))) (aH (aa 4)) eO)
def lV (h x:Str->GF):ES:=(af (b6 (gR (cF (h "ends_on") (ac (aa 0) (ac (aa 1) ba)))) (aP [ag 3,ag 4]) (gw h x))
  nG)
theorem xV(n:Nat):Ph (n+2) "do_on"=cL 3 5 (lV (Ph (n+1)) (Ph n)):=by kernel_rfl
def AF(x h:Str->GF):ES:=(aH (eV (cF (x "do_on") (ac (pT (h "Board.__init__") "Board" (ac (aa 0) ba)) (ac (aa 1) (ac (aa 2) ba))))))
theorem E6(n:Nat):Ph (n+2) "do"=cL 3 3 (AF (Ph (n+1)) (Ph n)):=by kernel_rfl
def iN (h x:Str->GF):ES:=(af (am 3 (eV (aU (gR (ae (pureOf (h "ends_from")) (v2 (vv 0) (ab al (vv 1) (vi 1))))) [] 2 (aP [ag 5,ag 6]) (bV (az dC (aa 5) (eV (ab al (vv 2) (vi 0))))) (vv 6))))
  (af (am 4 (eV (aU (gR (ae (pureOf (h "ends_from")) (v2 (vv 0) (ab al (vv 2) (vi 1))))) [] 2 (aP [ag 5,ag 6]) (bV (az dC (aa 5) (eV (ab al (vv 1) (vi 0))))) (vv 6))))
  (af (d_ (ya (bV (az ma (eV (dA (aa 3))) (eV (vi 1)))) (bV (az ma (aa 3) (aa 4)))) (aH (eV (vC (.bl false)))) eO)
  (aH (eV (az dC (eV (ae (pureOf (h "do")) (v3 (vv 0) (ab al (vv 1) (vi 1)) (ab al (vv 2) (vi 0))))) (eV (ae (pureOf (h "do")) (v3 (vv 0) (ab al (vv 2) (vi 1)) (ab al (vv 1) (vi 0)))))))))))
theorem rS(n:Nat):Ph (n+2) "_law_past"=cL 3 5 (iN (Ph (n+1)) (Ph n)):=by kernel_rfl
def iP (h x:Str->GF):ES:=(af (d_ (fV (bV (az dC (eV (ab al (ab al (vv 7) (vi 0)) (vi 0))) (eV (vt "step")))) (bV (az dC (eV (ab al (ab al (vv 7) (vi 0)) (vi 1))) (eV (ab al (ab al (vv 6) (vi 0)) (vi 1)))))) IM eO)
  (d_ (mI (bT (eV (ae (pureOf (h "_law_past")) (v3 (vv 1) (vv 6) (vv 7)))))) (aH (eV (vC (.bl false)))) eO))
def kn(x h:Str->GF):ES:=(b6 (gR (A1 (vv 3) gG gG (gc (ab aw (vi 1) (ab aE (dA (aa 3)) (vi 10)))))) (ag 7) (iP x h))
def km(h x:Str->GF):ES:=(d_ (mI (bT (eV (ae (pureOf (h "_law_touches")) (v4 (vv 1) (vv 2) (vv 4) (vv 5)))))) (aH (eV (vC (.bl false)))) eO)
def iO (h x:Str->GF):ES:=(af (am 3 (eV (ae (pureOf (h "ends_from")) (v2 (vv 1) (vv 2)))))
  (af (b6 (gR (vv 3)) (aP [ag 4,ag 5]) (km h x))
  (b6 (gR (lr (aU (gR (vv 3)) [] 1 (ag 8) (bT (eV (ae (pureOf (h "_law_is_own")) (v2 (vv 1) (ab al (vv 8) (vi 0)))))) (vv 8)) gG (gc (vi 5)))) (ag 6) (kn h x))))
def sM (h x:Str->GF):ES:=(af (am 1 (eV (ae (pureOf (h "_law_plan")) (v2 (vv 0) (vi 3)))))
  (af (b6 (gR (aQ (v2 (ae (pureOf (h "_law_standing")) (v2 (vv 0) (vv 1))) (ae (pureOf (h "begin")) (v1 (vv 1)))))) (ag 2) (iO h x))
  (aH (eV (vC (.bl true))))))
theorem B'(n:Nat):Ph (n+2) "law"=cL 1 8 (sM (Ph (n+1)) (Ph n)):=by kernel_rfl
variable{a:Type}{m:List a}
theorem Fy(h:m.length=n+1):∃a r,m=a::r/\r.length=n:=by
 cases m with
 |nil=>cases h
 |cons a r=>exact⟨a,r,rfl,Nat.succ.inj h⟩
theorem Lo(h:m.length=1):∃a,m=[a]:=by obtain⟨a,r,rfl,x⟩:=Fy h;exact⟨a,by rw[j' x]⟩
theorem IX(h:m.length=2):∃a b,m=[a,b]:=by obtain⟨a,r,rfl,x⟩:=Fy h;obtain⟨b,rfl⟩:=Lo x;exact⟨a,b,rfl⟩
theorem KA(h:m.length=3):∃a b c,m=[a,b,c]:=by obtain⟨a,r,rfl,x⟩:=Fy h;obtain⟨b,c,rfl⟩:=IX x;exact⟨a,b,c,rfl⟩
theorem Ln(h:m.length=4):∃a b c d,m=[a,b,c,d]:=by obtain⟨a,r,rfl,x⟩:=Fy h;obtain⟨b,c,d,rfl⟩:=KA x;exact⟨a,b,c,d,rfl⟩
theorem Lm(h:m.length=5):∃a b c d e,m=[a,b,c,d,e]:=by obtain⟨a,r,rfl,x⟩:=Fy h;obtain⟨b,c,d,e,rfl⟩:=Ln x;exact⟨a,b,c,d,e,rfl⟩
theorem Mf(h:m.length=6):∃a b c d e g,m=[a,b,c,d,e,g]:=by obtain⟨a,r,rfl,x⟩:=Fy h;obtain⟨b,c,d,e,g,rfl⟩:=Lm x;exact⟨a,b,c,d,e,g,rfl⟩
theorem sc:Tb.all IJ=true:=by decide +kernel
theorem un:(Tb.map (·.name)).Nodup:=by decide +kernel
def Fn(K:FG)(t:Nat)(x:Str):Prop:=∃(f:Addr)(o:Value)(e:Option Addr)(kV d p:Value)(a:Option Addr)(c h:Value)(s:Array (OV)),PySem.W.nsIn K mainGlobals x=some (some (.ref f))/\K.lookup f=some ⟨o,e,.func (PySem.W.fnOf x x (gq (dO t)) (dQ (dO t)) (aV (dO t)) .none kV d p a c h),s⟩/\PySem.W.codeIn K c x=true/\PySem.W.keepIn K (.ref f)=true
variable{x:Str}
theorem dk(X:K.In h)(G:h.Ns mainGlobals g)(H:Fn K t x)
  (b:∀(kV o p:Value)(n:Option Addr)(d e:Value)(m:LV),m.length=ps.length->bindArgs (PySem.W.fnOf x x (gq (dO t)) (dQ (dO t)) (aV (dO t)) .none kV o p n d e) ⟨m,[]⟩=pure (ps.zip m)):∃f s,DOk K g ⟨x,x,"",dO t,N,ps,i,w,j⟩ f s:=by
 obtain⟨f,v,u,kV,q,p,n,r,e,y,a,l,c,k⟩:=H;exact⟨_,_,⟨ji l c k,(ji l c k).binds b,λ_=>PySem.W.mg_of X G a,λh=>absurd (show("":Str).cps.isEmpty=false from h) (by decide +kernel)⟩⟩
def Gi(K:FG)(x:Str)(i:Int):Prop:=∃t,PySem.W.nsIn K mainGlobals x=some (some (.int i t))
theorem CY(X:K.In h)(G:h.Ns mainGlobals g){i:Int}(H:Gi K x i):k8 w K g x (.int i):=by obtain⟨t,a⟩:=H;exact .plain ⟨_,.int i,PySem.W.mg_of X G a,⟨_,rfl⟩,λ_ _=>rfl⟩ rfl
open PySem.W in
theorem Fi{w:World}{K:Frag}{h:Heap}{mg:SV}(X:K.In h)(G:h.Ns mainGlobals mg)
  {C:Addr}
  {r t p:Addr}{od24 B od29 D od39 E:Option Addr}{sl24 sl29 sl39:Array (OV)}{oc24 V Q pm24 q M oc29 W R pm29 u N oc39 Y T pm39 g O:Value}
  (s:nsIn K mainGlobals "Board"=some (some (.ref C))) (b:plainGet K C Str.empty=true) (n:hasDictIn K C=true) (a:plainOver K C=true) (k:findIn K (.ref C) "__setattr__"=some (some (.builtin "object.__setattr__"))) (cf0:makesIn K C=true) (cg0:keepIn K (.ref C)=true)
  (H:findIn K (.ref C) "families"=some none)
  (S:findIn K (.ref C) "homes"=some none)
  (F:findIn K (.ref C) "members"=some none)
  (P:findIn K (.ref C) "pairs"=some none)
  (A:findIn K (.ref C) "places"=some none)
  (h0:Fn K 34 "_law_cell_at") (h1:Fn K 35 "_law_mix") (h2:Fn K 40 "_law_roads") (h3:Fn K 36 "_law_name") (h4:Fn K 37 "_law_cells") (h5:Fn K 38 "_law_sum") (h6:Fn K 41 "_law_sends") (h7:Fn K 39 "_law_condition") (h8:Fn K 42 "_law_step") (h9:Fn K 43 "_law_family") (h10:Fn K 44 "_law_plan") (h11:Fn K 45 "_law_families") (h12:Fn K 46 "_law_crew") (h13:Fn K 47 "_law_pairs") (h14:Fn K 48 "_law_standing") (h15:Fn K 11 "families_of") (h16:Fn K 12 "pairs_of") (h17:Fn K 13 "begin") (h18:Fn K 29 "has_flaw") (h19:Fn K 21 "unlike_spots") (h20:Fn K 32 "replaced") (h21:Fn K 31 "without") (h22:Fn K 30 "flawed") (h23:Fn K 28 "flaw_ends") (h25:Fn K 19 "values_of") (h26:Fn K 6 "compared") (h27:Fn K 4 "value_of") (h28:Fn K 5 "holds") (h30:Fn K 20 "takeable") (h31:Fn K 23 "cells_behind") (h32:Fn K 24 "whos_behind") (h33:Fn K 26 "targets_of") (h34:Fn K 27 "posted") (h35:Fn K 25 "sendings") (h36:Fn K 22 "step_ends") (h37:Fn K 18 "hand_ends") (h38:Fn K 17 "ends_on") (h40:Fn K 16 "ends_from") (h41:Fn K 49 "_law_is_own") (h42:Fn K 50 "_law_touches") (h43:Fn K 15 "do_on") (h44:Fn K 14 "do") (h45:Fn K 51 "_law_past") (h46:Fn K 52 "law")
  (a24:findIn K (.ref C) "family_of"=some (some (.ref r))) (w24:isFn K (.ref r)=true)
  (Z:K.lookup r=some ⟨oc24,od24,.func (fnOf "family_of" "Board.family_of" (gq (L2.cu (dO 10) 1)) (dQ (L2.cu (dO 10) 1)) (aV (L2.cu (dO 10) 1)) .none V Q pm24 B q M),sl24⟩) (I:codeIn K q "Board.family_of"=true) (y:keepIn K (.ref r)=true)
  (a29:findIn K (.ref C) "hands_beside"=some (some (.ref t))) (w29:isFn K (.ref t)=true)
  (l29:K.lookup t=some ⟨oc29,od29,.func (fnOf "hands_beside" "Board.hands_beside" (gq (L2.cu (dO 10) 2)) (dQ (L2.cu (dO 10) 2)) (aV (L2.cu (dO 10) 2)) .none W R pm29 D u N),sl29⟩) (J:codeIn K u "Board.hands_beside"=true) (o:keepIn K (.ref t)=true)
  (a39:findIn K (.ref C) "__init__"=some (some (.ref p))) (w39:isFn K (.ref p)=true)
  (l39:K.lookup p=some ⟨oc39,od39,.func (fnOf "__init__" "Board.__init__" (gq (L2.cu (dO 10) 0)) (dQ (L2.cu (dO 10) 0)) (aV (L2.cu (dO 10) 0)) .none Y T pm39 E g O),sl39⟩) (L:codeIn K g "Board.__init__"=true) (U:keepIn K (.ref p)=true)
  (g0:Gi K "HIGHEST_LETTER" 999) (g1:Gi K "NOBODY" (-1))
  (z:∀x ∈ Cp,nsIn K mainGlobals x=some none)
  : TOk w Gv Att Tb K mg:=by
 refine⟨λd hd=>?_,sc,un,λx j=>mg_none_of X G (z x j),λx v i=>?_,λc f hc=>?_⟩
 .simp only[Tb,bq,eZ,eX]at hd;rcases hd with rfl|rfl|rfl|rfl|rfl|rfl|rfl|rfl|rfl|rfl|rfl|rfl|rfl|rfl|rfl|rfl|rfl|rfl|rfl|rfl|rfl|rfl|rfl|rfl|rfl|rfl|rfl|rfl|rfl|rfl|rfl|rfl|rfl|rfl|rfl|rfl|rfl|rfl|rfl|rfl|rfl|rfl|rfl|rfl|rfl|rfl|rfl;all_goals first
   |exact⟨_,_,⟨ji (st:=(L2.cu (dO 10) 1)) Z I y,(ji (st:=(L2.cu (dO 10) 1)) Z I y).binds (ps:=["self","hand"]) λ_ _ _ _ _ _ m l=>by obtain⟨_,_,rfl⟩:=IX l;rfl,λh=>absurd h (by decide +kernel),λ_=>⟨_,s,mg_of X G s,⟨b,n,a,k⟩,λh=>absurd h (by decide +kernel),λ_=>⟨a24,w24,y⟩⟩⟩⟩
   |exact⟨_,_,⟨ji (st:=(L2.cu (dO 10) 2)) l29 J o,(ji (st:=(L2.cu (dO 10) 2)) l29 J o).binds (ps:=["self","hand","name"]) λ_ _ _ _ _ _ m l=>by obtain⟨_,_,_,rfl⟩:=KA l;rfl,λh=>absurd h (by decide +kernel),λ_=>⟨_,s,mg_of X G s,⟨b,n,a,k⟩,λh=>absurd h (by decide +kernel),λ_=>⟨a29,w29,o⟩⟩⟩⟩
   |exact⟨_,_,⟨ji (st:=(L2.cu (dO 10) 0)) l39 L U,(ji (st:=(L2.cu (dO 10) 0)) l39 L U).binds (ps:=["self","plan"]) λ_ _ _ _ _ _ m l=>by obtain⟨_,_,rfl⟩:=IX l;rfl,λh=>absurd h (by decide +kernel),λ_=>⟨_,s,mg_of X G s,⟨b,n,a,k⟩,λ_=>⟨cf0,a39,w39,cg0⟩,λh=>absurd rfl h⟩⟩⟩
   |exact dk X G (by assumption) λ_ _ _ _ _ _ m l=>by first|(obtain⟨_,rfl⟩:=Lo l;rfl)|(obtain⟨_,_,rfl⟩:=IX l;rfl)|(obtain⟨_,_,_,rfl⟩:=KA l;rfl)|(obtain⟨_,_,_,_,rfl⟩:=Ln l;rfl)|(obtain⟨_,_,_,_,_,rfl⟩:=Lm l;rfl)|(obtain⟨_,_,_,_,_,_,rfl⟩:=Mf l;rfl)
 .unfold Gv at i;by_cases e:x=("HIGHEST_LETTER":Str)
  .rw [if_pos e]at i;subst e;cases i;exact CY X G g0
  rw[if_neg e]at i;clear e;by_cases e:x=("NOBODY":Str)
  .rw [if_pos e]at i;subst e;cases i;exact CY X G g1
  rw[if_neg e]at i;clear e;cases i
 .obtain⟨x,j,e⟩:=mR.mp hc;rw[Bool.and_eq_true]at e;have e1:=of_decide_eq_true e.1;have e2:f ∈ x.2:=by simpa using e.2
  subst e1;rcases bq.mp j with j|j
  .subst j;simp only[bq,eZ,eX]at e2;rcases e2 with rfl|rfl|rfl|rfl|rfl
   .exact⟨_,s,⟨b,n,a,k⟩,H⟩
   .exact⟨_,s,⟨b,n,a,k⟩,S⟩
   .exact⟨_,s,⟨b,n,a,k⟩,F⟩
   .exact⟨_,s,⟨b,n,a,k⟩,P⟩
   .exact⟨_,s,⟨b,n,a,k⟩,A⟩
  cases j
theorem log2_small{i:Int}(h:i.natAbs < 2 ^ 60):i.natAbs.log2 < 60:=by
 by_cases e:i.natAbs=0
 .rw [e];decide
 .exact (Nat.log2_lt e).mpr h
theorem bz{i j:Int}(h:i.natAbs < 2 ^ 60)(x:j.natAbs < 2 ^ 60):fx i j=true:=by unfold fx;have a:=log2_small h;have b:=log2_small x;exact ir (by lia)
theorem Ej:∀(n:Nat)(v:P),cb n v=true->cb (n+1) v=true:=by
 intro n;induction n with
 |zero=>intro v h;cases v<;>first|rfl|exact h|cases h
 |succ n i=>
  intro v h;cases v with
  |tup s=>exact bj.mpr λx a=>i x (bj.mp h x a)
  |lst s=>exact bj.mpr λx a=>i x (bj.mp h x a)
  |ro s=>exact bj.mpr λx a=>i x (bj.mp h x a)
  |non=>rfl
  |bl _=>rfl
  |int _=>rfl
  |str _=>exact h
  |dct _ _=>cases h
variable{v:P}
theorem ei(h:cb n v=true)(m:n≤e):cb e v=true:=by
 obtain⟨k,rfl⟩:=Nat.exists_eq_add_of_le m;clear m;induction k with
 |zero=>exact h
 |succ k i=>exact Ej _ _ i
def strOk(x:Str):Prop:=PyData.strOk x=true
@[simp] theorem BL(n:Nat)(i:Int):cb n (.int i)=true:=by cases n<;>rfl
@[simp] theorem Kt(n:Nat)(i:Bool):cb n (.bl i)=true:=by cases n<;>rfl
@[simp] theorem IQ(n:Nat):cb n .non=true:=by cases n<;>rfl
@[simp] theorem BK(n:Nat)(x:Str):cb n (.str x)=PyData.strOk x:=by cases n<;>rfl
@[simp] theorem IP(n:Nat)(s:List P):cb (n+1) (.tup s)=s.all (cb n):=rfl
@[simp] theorem IR(n:Nat)(s:List P):cb (n+1) (.lst s)=s.all (cb n):=rfl
theorem Ku(h:∀x ∈ s,cb n x=true):cb (n+1) (.lst s)=true:=bj.mpr h
@[simp] theorem wz(c:Nat):Str.length ⟨#[c]⟩=1:=rfl
theorem xm(h:strOk x)(a:strOk y):strOk (x++y):=by show(x.cps++y.cps).all (λc=>decide (c < 0x110000))=true;rw[Array.all_append,Bool.and_eq_true];exact⟨h,a⟩
theorem xl(e:strOk x)(n:Nat):strOk (dG x n):=by
 have k:∀(n:Nat)(a:Array Nat),a.all (λc=>decide (c < 0x110000))=true->((List.replicate n x.cps).foldl (·++·) a).all (λc=>decide (c < 0x110000))=true:=by
  intro n;induction n with
  |zero=>intro a h;exact h
  |succ n i=>intro a h;rw[dw,gD];exact i _ (by rw[Array.all_append,Bool.and_eq_true];exact⟨h,e⟩)
 exact k n #[] (by simp)
variable{k:Int}
theorem As(f:strOk x)(a:0≤k)(s:k < x.length)(n:x.length≤1000000):∃c,strOk ⟨#[c]⟩/\al (.str x) (.int k)=some (.str ⟨#[c]⟩):=by
 have l:k.toNat < x.cps.toList.length:=by simp only[li];unfold Str.length at s;lia
 have h:k.toNat < x.cps.size:=by simpa using l
 refine⟨x.cps.toList[k.toNat],?_,?_⟩
 .have:=Array.all_eq_true.mp f k.toNat h;show(#[x.cps.toList[k.toNat]].all λc=>decide (c < 0x110000))=true;simpa using this
 .have e:L2.atI x.cps.toList k=some (x.cps.toList[k.toNat]):=aF a (by simp[h]);show(if gu x.length=true then (L2.atI x.cps.toList k).map λc=>P.str ⟨#[c]⟩ else none)=_;rw[if_pos (by simp only[kW];exact n),e];rfl
theorem x8(h:x.length+y.length≤1000000):sF (.str x) (.str y)=some (.str (x++y)):=by show(if gu (x.length+y.length)=true then some (P.str (x++y)) else none)=_;rw[if_pos (by rw[kW];exact h)]
variable{s:List a}
theorem eE(h:s≠[])(a:Int):∃x ∈ s,L2.atI s (a % (s.length:Int))=some x:=by
 have l:(0:Int) < (s.length:Int):=by cases s with|nil=>exact absurd rfl h|cons _ _=>simp
 have e:=dt a (Int.ne_of_gt l);have n:=dZ a l;have k:(a % (s.length:Int)).toNat < s.length:=by lia
 exact⟨s[(a % (s.length:Int)).toNat],gE _,aF e (by simp[k])⟩
theorem vQ(h:0≤k)(e:k < (s.length:Int)):∃x ∈ s,L2.atI s k=some x:=by
 have a:k.toNat < s.length:=by lia
 exact⟨s[k.toNat],gE _,aF h (by simp[a])⟩
theorem atI_last(h:s≠[]):∃x ∈ s,L2.atI s (-1)=some x:=by
 have l:0 < s.length:=List.length_pos_iff.mpr h;refine⟨s[s.length-1],gE _,?_⟩;unfold L2.atI L2.xK;rw[if_neg (by lia),if_pos (by lia)];have e:(-1+(s.length:Int)).toNat=s.length-1:=by lia
 simp[e,l]
theorem bw{g:iU}{b:ES}{Inv:Nat->Lc->aD->Prop}:∀{s:List P}{k:Nat}{L:Lc}{S:aD},(∀i v L S,s[i]? = some v->Inv (k+i) L S->∃f L2 n,g v L=some f/\b f S=some (.nx,L2,n)/\Inv (k+i+1) L2 n)->Inv k L S ->
  ∃x a,aR g b s L S=some (.nx,x,a)/\Inv (k+s.length) x a
 | [],k,L,S,_,h=>⟨L,S,rfl,h⟩
 |v::r,k,L,S,c,h=>by
  obtain⟨f,L2,n,m,t,d⟩:=c 0 v L S rfl h;obtain⟨x,a,p,u⟩:=bw (g:=g) (b:=b) (Inv:=Inv) (s:=r) (k:=k+1) (L:=L2) (S:=n) (λi w L S e q=>by have:=c (i+1) w L S (by simpa using e) (by rw[show k+(i+1)=k+1+i by lia];exact q);rwa [show k+(i+1)+1=k+1+i+1 by lia]at this) d
  exact⟨x,a,by rw[bu m t];exact p,by rw[bc,show k+(r.length+1)=k+1+r.length by lia];exact u⟩
theorem lS{g:iU}{c:EB}{e:EV}{Inv:Lc->Prop}{Q:P->Prop}{S:aD}:∀{s:List P}{L:Lc},(∀v ∈ s,∀L,Inv L->∃x k,g v L=some x/\Inv x/\c x S=some (k,S)/\(k=true->∃y,e x S=some (y,S)/\Q y))->Inv L ->
  ∃a,a_ g c e s L S=some (a,S)/\(∀y ∈ a,Q y)/\a.length≤s.length
 | [],L,_,h=>⟨[],rfl,λ_ z=>(by cases z),Nat.le_refl _⟩
 |v::r,L,t,h=>by
  obtain⟨x,k,n,i,f,d⟩:=t v List.mem_cons_self L h;obtain⟨a,b,m,j⟩:=lS (s:=r) (L:=x) (λw hw=>t w (aS _ hw)) i;cases k with
  |false=>exact⟨a,by simp[a_,n,f,b],m,by simp;lia⟩
  |true=>obtain⟨y,p,q⟩:=d rfl;exact⟨y::a,by simp[a_,n,f,b,p],λz u=>(bq.mp u).elim (λe=>e ▸ q) (m z),by simp;lia⟩
theorem kl{g:iU}{e:EV}{Inv:Lc->Prop}{Q:P->Prop}{S:aD}:∀{s:List P}{L:Lc},(∀v ∈ s,∀L,Inv L->∃x y,g v L=some x/\Inv x/\e x S=some (y,S)/\Q y)->Inv L ->
  ∃a,a_ g gQ e s L S=some (a,S)/\(∀y ∈ a,Q y)/\a.length=s.length
 | [],L,_,h=>⟨[],rfl,λ_ z=>(by cases z),rfl⟩
 |v::r,L,n,h=>by obtain⟨x,y,k,i,f,q⟩:=n v List.mem_cons_self L h;obtain⟨a,b,c,m⟩:=kl (s:=r) (L:=x) (λw hw=>n w (aS _ hw)) i;exact⟨y::a,by simp[a_,k,f,b],λz t=>(bq.mp t).elim (λe=>e ▸ q) (c z),by simp[m]⟩
theorem bx{g:iU}{c:EB}{e:EV}{Inv:Lc->Prop}{S:aD}{p:P->Bool}{f:P->P}:∀{s:List P}{L:Lc},(∀v ∈ s,∀L,Inv L->∃x,g v L=some x/\Inv x/\c x S=some (p v,S)/\(p v=true->e x S=some (f v,S)))->Inv L ->
  a_ g c e s L S=some ((s.filter p).map f,S)
 | [],L,_,h=>rfl
 |v::r,L,m,h=>by
  obtain⟨x,n,i,a,t⟩:=m v List.mem_cons_self L h;have b:=bx (s:=r) (L:=x) (λw hw=>m w (aS _ hw)) i;cases k:p v with
  |false=>rw[k]at a;simp[a_,n,a,b,k]
  |true=>rw[k]at a;simp[a_,n,a,b,k,t k]
theorem ints_get{lo:Int}{n i:Nat}{v:P}(h:(intsFrom lo n)[i]? = some v):v=.int (lo+i)/\i < n:=by
 unfold Ev.intsFrom at h;rw[List.getElem?_map]at h;cases e:(List.range n)[i]? with
 |none=>rw[e]at h;cases h
 |some j=>
  rw[e]at h;cases h;have:=List.getElem?_eq_some_iff.mp e
  obtain⟨x,a⟩:=this;simp at x a;subst a;exact⟨rfl,x⟩
theorem dI{lo:Int}{n:Nat}{v:P}(h:v ∈ intsFrom lo n):∃i:Nat,v=.int (lo+i)/\i < n:=by obtain⟨i,x,e⟩:=lj.mp h;exact⟨i,ints_get (by rw[cK x,e])⟩
theorem bt(lo:Int)(n:Nat):(intsFrom lo n).length=n:=by simp[Ev.intsFrom]
theorem zE(k n:Str->GF)(s:List P):∀(a:Int)(p t q:Option D),∃(r:Int)(e:Option D),aR (ag 2) (gO k n) s [qi a,p,t,q] []=some (.nx,[qi r,p,e,q],[]):=by
 induction s with
 |nil=>intro a p t q;exact⟨a,t,rfl⟩
 |cons x s i=>intro a p t q;obtain⟨r,e,h⟩:=i (a / 2147483648) p (qp x) q;exact⟨r,e,by simpa[aR,gO] using h⟩
theorem rf(i:2≤n)(a:Int){p:Int}(s:0≤p)(k:p < 1000):∃r:Int,0≤r/\pureOf (Ph n "_law_mix") [.int a,.int p]=some (.int r):=by
 obtain⟨n,rfl⟩:=fF (n:=n) (by first|assumption|lia);by_cases h:(1000000000000:Int)≤a
 .obtain⟨r,j,e⟩:=zE (Ph (n+1)) (Ph n) (intsFrom 0 (p % 61).toNat) (a / 1000000000000-1) (qi p) none none;refine⟨r % 2147483648,dt _ (by decide),?_⟩;have c:(p % 61).natAbs < 1000000:=by lia
  rw[mf,ah];simp[jr,h,c,e]
 .have m:0≤p * p/\p * p≤1000000:=⟨Int.mul_nonneg s s,Int.le_trans (Int.mul_le_mul (Int.le_of_lt k) (Int.le_of_lt k) s (by decide)) (by decide)⟩;have v:fx p p=true:=bz (by lia) (by lia);have d:fx (p * p) 7919=true:=bz (by lia) (by decide);have w:fx (a % 1000003+p * p * 7919+p) 48271=true:=bz (by lia) (by decide);generalize f:(a % 1000003+p * p * 7919+p) * 48271 % 2147483629=x;have t:0≤x/\x < 2147483629:=by subst f;exact⟨dt _ (by decide),dZ _ (by decide)⟩
  have u:fx x x=true:=bz (by lia) (by lia);generalize b:x * x % 2147483587=y;have q:0≤y/\y < 2147483587:=by subst b;exact⟨dt _ (by decide),dZ _ (by decide)⟩
  have g:fx y (y+2)=true:=bz (by lia) (by lia);refine⟨y * (y+2) % 2147483579 / 7,Int.ediv_nonneg (dt _ (by decide)) (by decide),?_⟩;rw[mf,ah];simp[jr,h,v,d,w,f,u,b,g]
noncomputable def dc(n:List Int):P:=.ro (n.map .int)
theorem sH(f:2≤n)(s:List Int)(x:0≤k):∃r:Int,pureOf (Ph n "_law_cell_at") [dc s,.int k]=some (.int r):=by
 obtain⟨n,rfl⟩:=fF (n:=n) (by first|assumption|lia);by_cases h:k < (s.length:Int)
 .have a:k.toNat < s.length:=by lia
  refine⟨s[k.toNat],?_⟩;have e:L2.atI (s.map P.int) k=some (.int s[k.toNat]):=aF x (by simp[a]);rw[iW,ah];simp[gb,dc,b7,cy,h,e]
 .refine⟨0,?_⟩;rw[iW,ah];simp[gb,dc,b7,cy,h]
theorem g7{n:Nat}(h:2≤n)(s:List Int){k p:Int}(a:0≤k)(f:0≤p)(b:p < 1000):∃c r:Int,0≤r/\pureOf (Ph n "_law_cell_at") [dc s,.int k]=some (.int c)/\pureOf (Ph n "_law_mix") [.int c,.int p]=some (.int r):=by obtain⟨c,e⟩:=sH h s a;obtain⟨r,m,x⟩:=rf h c f b;exact⟨c,r,m,e,x⟩
theorem Ei:strOk "xyz":=by unfold strOk;decide +kernel
theorem wy:("xyz":Str).length=3:=by decide +kernel
theorem Ir:∀k:Nat,k < 16->al (.str "abcdefghijklmnop") (.int (k:Int))=some (.str ⟨#[97+k]⟩):=by
 intro k h;have e:∀k:Nat,k < 16->L2.atI ((("abcdefghijklmnop":Str)).cps.toList) (k:Int)=some (97+k):=by decide +kernel
 show(if gu (("abcdefghijklmnop":Str)).length=true then (L2.atI ((("abcdefghijklmnop":Str)).cps.toList) (k:Int)).map λc=>P.str ⟨#[c]⟩ else none)=_;rw[e k h,if_pos (by decide +kernel)];rfl
noncomputable def hd(x:Str):Option Nat:=x.cps[0]?
theorem DP(c n:Nat)(x:Str):hd (dG ⟨#[c]⟩ (n+1)++x)=some c:=by
 have k:∀(n:Nat)(a:Array Nat),a[0]? = some c->((List.replicate n #[c]).foldl (·++·) a)[0]? = some c:=by
  intro n;induction n with
  |zero=>intro a h;exact h
  |succ n i=>intro a h;rw[dw,gD];refine i _ ?_;have s:0 < a.size:=(Array.getElem?_eq_some_iff.mp h).1;rw[Array.getElem?_append_left s];exact h
 have h:=k n (#[]++#[c]) (by simp);have s:0 < ((List.replicate n #[c]).foldl (·++·) (#[]++#[c])).size:=(Array.getElem?_eq_some_iff.mp h).1;show(((List.replicate (n+1) #[c]).foldl (·++·) #[])++x.cps)[0]? = some c;rw[dw,gD,Array.getElem?_append_left s];exact h
theorem mZ{n:Nat}(v:3≤n)(s:List Int){k:Nat}(r:k < 16):∃x:Str,strOk x/\hd x=some (97+k)/\pureOf (Ph n "_law_name") [dc s,.int (k:Int)]=some (.str x):=by
 obtain⟨n,rfl⟩:=fF (n:=n) (by first|assumption|lia);obtain⟨c,a,q,e,b⟩:=g7 (n:=n+1) (by lia) s (k:=1) (p:=(k:Int)) (by lia) (by lia) (by lia);have u:=Ir k r;obtain⟨d,h,f⟩:=As (k:=a / 4 % 3) Ei (by lia) (by rw[wy];lia) (by rw[wy];lia);have t:strOk ⟨#[97+k]⟩:=by show(#[97+k].all λc=>decide (c < 0x110000))=true;simp;lia
 have m:sE (.str ⟨#[97+k]⟩) (.int (1+a % 4))=some (.str (dG ⟨#[97+k]⟩ ((a % 4).toNat+1))):=by show(if (gu ((1+a % 4).toNat * 1) && decide ((1+a % 4).natAbs < 1000000))=true then some (P.str (dG ⟨#[97+k]⟩ (1+a % 4).toNat)) else none)=_;rw[if_pos (by rw[Bool.and_eq_true,kW];exact⟨by lia,ir (by lia)⟩),show(1+a % 4).toNat=(a % 4).toNat+1 by lia]
 have z:=x8 (x:=dG ⟨#[97+k]⟩ ((a % 4).toNat+1)) (y:=⟨#[d]⟩) (by rw[jL,wz,wz];lia);refine⟨dG ⟨#[97+k]⟩ ((a % 4).toNat+1)++⟨#[d]⟩,xm (xl t _) h,DP _ _ _,?_⟩;rw[rT,ah];simp[k5,e,b,u,f,m,z]
theorem Kz(a:Int):∃r:Int,-1≤r/\r≤5/\L2.atI [P.int 0,.int 0,.int (-1),.int 5] (a % 4)=some (.int r):=by
 have h:a % 4=0\/a % 4=1\/a % 4=2\/a % 4=3:=by lia
 rcases h with h|h|h|h<;>rw[h]<;>simp
theorem HJ(a:Int):∃r:Int,0≤r/\r≤2/\L2.atI [P.int 1,.int 2,.int 0,.int 1] (a % 4)=some (.int r):=by
 have h:a % 4=0\/a % 4=1\/a % 4=2\/a % 4=3:=by lia
 rcases h with h|h|h|h<;>rw[h]<;>simp
def l_(v:P):Prop:=∃x lo h a,strOk x/\-1≤lo/\lo≤a/\a≤h/\h≤7/\v=.tup [.str x,.int lo,.int h,.int a]
noncomputable def aC:P->Str
 | .tup (.str s::_)=>s
 |_=>""
def w4(v:List P):Prop:=(∀c ∈ v,l_ c)/\∀i c,v[i]? = some c->hd (aC c)=some (99+i)
@[simp] theorem yD(v:List P):toP 9 (.ref 0) [.lst (v.map .p)]=some (.lst v,[.fz (.lst v)]):=eG rfl
theorem cm(s:List P)(v:P):s.map D.p++[.p v]=(s++[v]).map .p:=by simp
theorem cC{Q:P->Prop}{s:List P}{v:P}(h:∀x ∈ s,Q x)(e:Q v):∀x ∈ s++[v],Q x:=λx a=>(du.mp a).elim (h x) λa=>by rw[fY.mp a];exact e
theorem t4{Q:Nat->P->Prop}{s:List P}{v:P}(h:∀i x,s[i]? = some x->Q i x)(n:Q s.length v):∀i x,(s++[v])[i]? = some x->Q i x:=λi x a=>by
 by_cases e:i < s.length
 .rw [List.getElem?_append_left e]at a;exact h i x a
 .rw [fB (by lia)]at a;have:i-s.length=0:=by
   have:=(List.getElem?_eq_some_iff.mp a).1;simp at this;lia
  rw[this]at a;cases a;rw[show i=s.length by lia];exact n
theorem Av{n:Nat}(hn:4≤n)(t:List Int){f m:Int}(h0:0≤f)(h1:0≤m)(h2:m≤3):∃r:List P,r.length≤m.toNat/\w4 r/\pureOf (Ph n "_law_cells") [dc t,.int f,.int m]=some (.lst r):=by
 obtain⟨n,rfl⟩:=fF (n:=n) (by first|assumption|lia);obtain⟨c,a,ha,G,I⟩:=g7 (n:=n+1) (by lia) t (k:=2+f) (p:=1) (by lia) (by lia) (by lia);have hm:a % (m+1) < m+1:=dZ _ (by lia);have T:0≤a % (m+1):=dt _ (by lia);let Inv:Nat->Lc->aD->Prop:=λi L S=>∃(r:List P)(H F K A:Option D),r.length=i/\w4 r/\L=[qp (dc t),qi f,qi m,qr 0,H,F,K,A]/\S=[.lst (r.map .p)]
 obtain⟨Z,S',e,r,H,F,K,A,j,o,rfl,rfl⟩:=bw (g:=ag 4) (b:=fJ (Ph (n+1)) (Ph n)) (Inv:=Inv) (s:=Ev.intsFrom 0 (a % (m+1)).toNat) (k:=0)
  (L:=[qp (dc t),qi f,qi m,qr 0,none,none,none,none]) (S:=[.lst []]) (fun i v L S W O=>by
   obtain⟨rfl,hi⟩:=ints_get W;obtain⟨r,H,F,K,A,j,o,rfl,rfl⟩:=O;obtain⟨c2,d,hd,C,E⟩:=g7 (n:=n+1) (by lia) t (k:=2+f) (p:=2+(i:Int)) (by lia) (by lia) (by lia);obtain⟨x,Y,y,N⟩:=mZ (n:=n+1) (by lia) t (k:=2+i) (by lia);obtain⟨lo,l,R,J⟩:=Kz d;obtain⟨u,V,B,M⟩:=HJ (d / 4);have z:0 < lo+u-lo+1:=by lia
   have Q:r.length≤1000000:=by lia
   generalize hw:d / 16 % (lo+u-lo+1)=w;have X:0≤w/\w < lo+u-lo+1:=by subst hw;exact⟨dt _ (by lia),dZ _ z⟩
   refine⟨_,[qp (dc t),qi f,qi m,qr 0,qi (i:Int),qi d,qi lo,qi (lo+u)],[.lst ((r++[P.tup [.str x,.int lo,.int (lo+u),.int (lo+w)]]).map D.p)],rfl,?_,_,_,_,_,_,by simp;lia,⟨cC o.1 ⟨x,lo,lo+u,lo+w,Y,l,by lia,by lia,by lia,rfl⟩,t4 o.2 ?_⟩,rfl,rfl⟩
   .rw [<- cm];have q:pureOf (Ph (n+1) "_law_name") [dc t,.int (2+(i:Int))]=some (.str x):=by rw[<- N];rfl
    simp[fJ,C,E,q,J,M,z,c8,Q,hw]
   .show My.hd x=_;rw[y,j];congr 1;lia) ⟨[],none,none,none,none,rfl,⟨λ_ h=>(by cases h),λ_ _ h=>(by cases h)⟩,rfl,rfl⟩
 refine⟨r,by rw[j,bt];lia,o,?_⟩;have U:(a % (m+1)).natAbs < 1000000:=by lia
 have z:0 < m+1:=by lia
 rw[oZ,ah];simp[jW,G,I,U,z,e]
@[simp] theorem II:PyData.strOk "number"=true/\PyData.strOk "name"=true/\PyData.strOk "plus"=true/\PyData.strOk "minus"=true/\PyData.strOk "times"=true/\PyData.strOk "true"=true/\PyData.strOk "not"=true/\PyData.strOk "or"=true/\PyData.strOk "and"=true/\PyData.strOk "is"=true/\PyData.strOk "="=true/\PyData.strOk "!="=true/\PyData.strOk "<"=true/\PyData.strOk "<="=true/\PyData.strOk ">"=true/\PyData.strOk ">="=true/\PyData.strOk "row"=true/\PyData.strOk "heap"=true/\PyData.strOk "ma"=true/\PyData.strOk "mb"=true/\PyData.strOk "who"=true/\PyData.strOk "all"=true/\PyData.strOk "any"=true/\PyData.strOk ""=true/\PyData.strOk "it"=true/\PyData.strOk "weak"=true/\PyData.strOk "strong"=true/\PyData.strOk "step"=true/\PyData.strOk "lose"=true/\PyData.strOk "double"=true:=by decide +kernel
def jG(v:P):Prop:=∃s:Str,PyData.strOk s=true/\v=.str s
theorem jG.ok(h:jG v)(n:Nat):cb n v=true:=by obtain⟨s,h,rfl⟩:=h;simpa using h
theorem gI{s:List P}(h:∀x ∈ s,jG x)(n:Nat):cb (n+1) (.lst s)=true:=Ku λx a=>(h x a).ok n
theorem a7(h:s≠[]):s.isEmpty=false:=by cases s with|nil=>exact absurd rfl h|cons _ _=>rfl
theorem len_pos(h:s≠[]):0 < s.length:=List.length_pos_iff.mpr h
noncomputable abbrev lB(k:Int):P:=.tup [.str "number",.int k]
noncomputable abbrev ms(y:P):P:=.tup [.str "name",y]
def nT(N:List P)(v:P):Prop:=(∃k,v=lB k)\/∃y ∈ N,v=ms y\/(∃k,v=.tup [.str "plus",ms y,lB k])\/(∃k j:Int,0≤k/\k≤2/\v=.tup [.str "minus",.tup [.str "times",ms y,lB k],lB j])\/v=.tup [.str "minus",lB 1,ms y]
theorem nT.ok(a:∀x ∈ N,jG x)(h:nT N v):cb 4 v=true:=by
 rcases h with ⟨k,rfl⟩|⟨y,e,h⟩
 .simp
 .have o:∀k,cb k y=true:=λk=>(a y e).ok k;rcases h with rfl|⟨k,rfl⟩|⟨k,j,_,_,rfl⟩|rfl<;>simp[o]
theorem u1{n:Nat}(m:2≤n)(d:Int){s:List P}(c:∀x ∈ s,jG x):∃v,nT s v/\pureOf (Ph n "_law_sum") [.int d,.lst s]=some v:=by
 obtain⟨n,rfl⟩:=fF (n:=n) (by first|assumption|lia);have e:=rN (gI c 19);by_cases k:s=[]
 .subst k;refine⟨lB (d / 5 % 3),.inl ⟨_,rfl⟩,?_⟩;rw[eU,ah];simp[dN,e]
 rw[a7 k]at e;have l:=len_pos k;obtain⟨y,f,a⟩:=eE k (d / 5);have b:d % 5=0\/d % 5=1\/d % 5=2\/d % 5=3\/d % 5=4:=by lia
 rcases b with h|h|h|h|h
 .refine⟨lB (d / 5 % 3),.inl ⟨_,rfl⟩,?_⟩;rw[eU,ah];simp[dN,e,h]
 .refine⟨ms y,.inr ⟨y,f,.inl rfl⟩,?_⟩;rw[eU,ah];simp[dN,e,h,b7,cy,l,a]
 .refine⟨.tup [.str "plus",ms y,lB (d / 20 % 3)],.inr ⟨y,f,.inr (.inl ⟨_,rfl⟩)⟩,?_⟩;rw[eU,ah];simp[dN,e,h,b7,cy,l,a]
 .refine⟨.tup [.str "minus",.tup [.str "times",ms y,lB (d / 20 % 3)],lB (d / 60 % 2)],.inr ⟨y,f,.inr (.inr (.inl ⟨_,_,by lia,by lia,rfl⟩))⟩,?_⟩;rw[eU,ah];simp[dN,e,h,b7,cy,l,a]
 .refine⟨.tup [.str "minus",lB 1,ms y],.inr ⟨y,f,.inr (.inr (.inr rfl))⟩,?_⟩;rw[eU,ah];simp[dN,e,h,b7,cy,l,a]
def kN(N:List P)(v:P):Prop:=∃w y s,y ∈ N/\nT N s/\PyData.strOk w=true/\v=.tup [.str "is",.str w,ms y,s]
def vl(N:List P)(v:P):Prop:=v=.tup [.str "true"]\/kN N v\/(∃p,kN N p/\v=.tup [.str "not",p])\/∃p z,kN N p/\z ∈ N/\v=.tup [.str "or",p,.tup [.str "and",.tup [.str "true"],.tup [.str "is",.str "=",lB 1,ms z]]]
theorem w6(a:Int):∃w:Str,PyData.strOk w=true/\L2.atI [P.str "=",.str "!=",.str "<",.str "<=",.str ">",.str ">="] (a % 6)=some (.str w):=by obtain⟨w,hw,e⟩:=vQ (s:=[P.str "=",.str "!=",.str "<",.str "<=",.str ">",.str ">="]) (k:=a % 6) (by lia) (by simp;lia);simp only[bq,eZ,eX]at hw;rcases hw with rfl|rfl|rfl|rfl|rfl|rfl<;>exact⟨_,by simp,e⟩
theorem Cg{n:Nat}(j:3≤n)(d:Int){s:List P}(m:∀x ∈ s,jG x):∃v,vl s v/\pureOf (Ph n "_law_condition") [.int d,.lst s]=some v:=by
 obtain⟨n,rfl⟩:=fF (n:=n) (by first|assumption|lia);have e:=rN (gI m 19);by_cases a:s=[]
 .subst a;refine⟨.tup [.str "true"],.inl rfl,?_⟩;rw[cB,ah];simp[bY,e]
 rw[a7 a]at e;have l:=len_pos a;obtain⟨y,g,c⟩:=eE a (d / 30);obtain⟨z,i,r⟩:=vQ (s:=s) (k:=0) (by lia) (by lia);obtain⟨w,hw,b⟩:=w6 (d / 5);obtain⟨v,u,f⟩:=u1 (n:=n+1) (by lia) (d / 90) m;have p:kN s (.tup [.str "is",.str w,ms y,v]):=⟨w,y,v,g,u,hw,rfl⟩;by_cases t:d % 5 < 2
 .refine⟨.tup [.str "true"],.inl rfl,?_⟩;rw[cB,ah];simp[bY,e,t]
 have q:d % 5=2\/d % 5=3\/d % 5=4:=by lia
 rcases q with h|h|h
 .refine⟨_,.inr (.inr (.inl ⟨_,p,rfl⟩)),?_⟩;rw[cB,ah];simp[bY,e,h,b7,cy,l,c,b,f]
 .refine⟨_,.inr (.inr (.inr ⟨_,z,p,i,rfl⟩)),?_⟩;rw[cB,ah];simp[bY,e,h,b7,cy,l,c,r,b,f]
 .refine⟨_,.inr (.inl p),?_⟩;rw[cB,ah];simp[bY,e,h,b7,cy,l,c,b,f]
def fE(v:P):Prop:=∃(a b k:Str)(c:Int)(d e:Bool),PyData.strOk a=true/\PyData.strOk b=true/\(k="row"\/k="heap")/\1≤c/\c≤3/\v=.tup [.str a,.str b,.str k,.int c,.bl d,.bl e]
noncomputable def rA:P->Str
 | .tup (.str a::_)=>a
 |_=>""
noncomputable def rB:P->Str
 | .tup (_::.str b::_)=>b
 |_=>""
def RD(r h:P):Prop:=¬(rA r=rA h/\rB r=rB h)
def De(F:List P)(v:List P):Prop:=v.length≤8/\(∀r ∈ v,fE r/\.str (rA r) ∈ F/\.str (rB r) ∈ F)/\v.Pairwise RD
def Kg(F:List P)(v:List P)(i j:Nat):Prop:=∀r ∈ v,∃h x,F[h]? = some (.str (rA r))/\F[x]? = some (.str (rB r))/\(h < i\/(h=i/\x < j))
theorem CG{a b:P}(d:Int):∃w,(w=a\/w=b)/\L2.atI [a,b] (d % 2)=some w:=by obtain⟨w,hw,e⟩:=vQ (s:=[a,b]) (k:=d % 2) (by lia) (by simp;lia);exact⟨w,by simpa using hw,e⟩
theorem eA{s:List P}{i:Nat}{v:P}(h:(bf 0 s)[i]? = some v):∃x,s[i]? = some x/\v=.tup [.int (i:Int),x]:=by obtain⟨x,a,e⟩:=lJ h;exact⟨x,a,by rw[e];simp⟩
theorem aY{a:Type}{s:List a}{i:Nat}{x:a}(h:s[i]? = some x):i < s.length:=(List.getElem?_eq_some_iff.mp h).1
theorem yU{n:Nat}(hn:3≤n)(A:List Int){s:List P}(hx:∀x ∈ s,jG x)(T:∀(i j:Nat) x,s[i]? = some x->s[j]? = some x->i=j)(hl:s.length≤4){m:Int}(h1:0 < m)(h3:m≤3):∃f:List P,De s f/\pureOf (Ph n "_law_roads") [dc A,.lst s,.int m]=some (.lst f):=by
 obtain⟨n,rfl⟩:=fF (n:=n) (by first|assumption|lia);let I:Nat->Option D->Option D->Nat->Lc->aD->Prop:=λii k B j L S=>∃(f:List P)(J M N C:Option D),(De s f/\Kg s f ii j)/\L=[qp (dc A),ql s,qi m,qr 0,k,B,J,M,N,C]/\S=[.lst (f.map .p)]
 let Inv:Nat->Lc->aD->Prop:=λi L S=>∃k B,I i k B 0 L S
 obtain⟨L',S',e,k0,one0,f,J,M,N,C,⟨H,_⟩,rfl,rfl⟩:=bw (g:=aP [ag 4,ag 5]) (b:=fI (Ph (n+1)) (Ph n)) (Inv:=Inv) (s:=bf 0 s) (k:=0)
  (L:=[qp (dc A),ql s,qi m,qr 0,none,none,none,none,none,none]) (S:=[.lst []]) (fun i v L S hv Z=>by
   obtain⟨x,q,rfl⟩:=eA hv;have hi:=aY q;have V:=bH q;obtain⟨a,ha,rfl⟩:=hx x V;obtain⟨_,_,f,J,M,N,C,H,rfl,rfl⟩:=Z;rw[eN]at H ⊢;obtain⟨L',S',e,hI2⟩:=bw (g:=aP [ag 6,ag 7]) (b:=cY (Ph (n+1)) (Ph n)) (Inv:=I i (qi (i:Int)) (qs a)) (s:=bf 0 s) (k:=0)
    (L:=[qp (dc A),ql s,qi m,qr 0,qi (i:Int),qs a,J,M,N,C]) (S:=[.lst (f.map .p)]) (fun j v L S hv Z=>by
     obtain⟨y,u,rfl⟩:=eA hv;have hj:=aY u;have W:=bH u;obtain⟨b,hb,rfl⟩:=hx y W;obtain⟨f,J,M,N,C,⟨H,t⟩,rfl,rfl⟩:=Z;rw[eN]at t ⊢;obtain⟨c,d,hd,O,Q⟩:=g7 (n:=n+1) (by lia) A (k:=4) (p:=30+4 * (i:Int)+(j:Int)) (by lia) (by lia) (by lia);have m4:fx 4 (i:Int)=true:=bz (by decide) (by lia);by_cases hg:0 < d % 4/\f.length < 8
     .obtain⟨w,hw,X⟩:∃w:Str,(w="row"\/w="heap")/\L2.atI [P.str "row",.str "heap"] (d / 4 % 2)=some (.str w):=by
       obtain⟨w,hw,X⟩:=CG (a:=.str "row") (b:=.str "heap") (d / 4);rcases hw with rfl|rfl
       .exact⟨_,.inl rfl,X⟩
       .exact⟨_,.inr rfl,X⟩
      have U:f.length≤1000000:=by lia
      have c0:0≤d / 8 % m:=dt _ (by lia);have c1:d / 8 % m < m:=dZ _ h1;refine⟨_,[qp (dc A),ql s,qi m,qr 0,qi (i:Int),qs a,qi (j:Int),qs b,qi d,qs w],[.lst ((f++[P.tup [.str a,.str b,.str w,.int (1+d / 8 % m),.bl (decide (d / 24 % 3=1)),.bl (decide (d / 72 % 3=1))]]).map D.p)],rfl,?_,_,_,_,_,_,⟨⟨by simp;lia,cC H.2.1 ⟨⟨a,b,w,_,_,_,ha,hb,hw,by lia,by lia,rfl⟩,V,W⟩,qI.mpr ⟨H.2.2,List.pairwise_singleton _ _,λr K z hz=>?_⟩⟩,cC (λr K=>?_) ⟨i,j,q,u,.inr ⟨rfl,by lia⟩⟩⟩,rfl,rfl⟩;rotate_left
      .rw [fY.mp hz];rintro ⟨O,Q⟩;obtain⟨E,G,l,o,Y⟩:=t r K;rw[O]at l;rw[Q]at o;have:=T _ _ _ l q
       have:=T _ _ _ o u;lia
      .obtain⟨E,G,l,o,Y⟩:=t r K;exact⟨E,G,l,o,by lia⟩
      rw[<- cm];have F:(f.length:Int) < 8:=by lia
      simp[cY,O,Q,m4,hg.1,b7,F,X,h1,c8,U]
     .refine⟨_,[qp (dc A),ql s,qi m,qr 0,qi (i:Int),qs a,qi (j:Int),qs b,qi d,C],[.lst (f.map D.p)],rfl,?_,f,_,_,_,_,⟨H,λr K=>?_⟩,rfl,rfl⟩;rotate_left
      .obtain⟨E,G,l,o,Y⟩:=t r K;exact⟨E,G,l,o,by lia⟩
      by_cases R:0 < d % 4
      .have F:¬(f.length:Int) < 8:=by lia
       simp[cY,O,Q,m4,R,b7,F]
      .simp [cY,O,Q,m4,R,b7]) ⟨f,J,M,N,C,H,rfl,rfl⟩
   obtain⟨vs',z6,z7,z8,z9,⟨hi1,hi2⟩,hi3,hi4⟩:=hI2;exact⟨_,L',S',rfl,by simpa[fI] using e,_,_,vs',z6,z7,z8,z9,⟨hi1,λr K=>by obtain⟨E,G,l,o,Y⟩:=hi2 r K;exact⟨E,G,l,o,by lia⟩⟩,hi3,hi4⟩) ⟨none,none,[],none,none,none,none,⟨⟨by simp,λ_ h=>(by cases h),List.Pairwise.nil⟩,λ_ h=>(by cases h)⟩,rfl,rfl⟩
 refine⟨f,H,?_⟩;rw[oX,ah];simp[jU,e]
end My
namespace My
open PySem L2 Ev
variable{s:Str}{l:List P}
theorem u9(H:∀c ∈ l,fE c)(L:Lc)(j k:Nat)(t:j < L.length)(h:k≠j)(z:L[k]? = some (qs s))(S:aD) :
  ∃f,a_ (ag j) (bV (az dC (eV (ab al (vv j) (vi 0))) (aa k))) (ab al (vv j) (vi 1)) l L S=some (f,S)/\(∀y ∈ f,jG y/\∃r ∈ l,rA r=s/\y=.str (rB r))/\f.length≤l.length:=by
 refine lS (Inv:=λm=>∃d,m=L.set j d) (λv p m u=>?_) ⟨L[j],(iy t).symm⟩;obtain⟨d,rfl⟩:=u;obtain⟨a,b,n,c,x,e,F,i,o,_,_,rfl⟩:=H v p;have g:((L.set j d).set j (qt [.str a,.str b,.str n,.int c,.bl x,.bl e]))[j]? = some (qt [.str a,.str b,.str n,.int c,.bl x,.bl e]):=by rw[dD (by simpa using t)]
 have w:((L.set j d).set j (qt [.str a,.str b,.str n,.int c,.bl x,.bl e]))[k]? = some (qs s):=by rw[a6 (Ne.symm h),a6 (Ne.symm h)];exact z
 exact⟨_,decide (a=s),rfl,⟨_,List.set_set ..⟩,by simp[-List.set_set,g,w],λq=>⟨.str b,by simp[-List.set_set,g],⟨b,i,rfl⟩,_,p,of_decide_eq_true q,rfl⟩⟩
theorem xq(H:∀c ∈ l,fE c)(L:Lc)(j k:Nat)(t:j < L.length)(h:k≠j)(z:L[k]? = some (qs s))(S:aD) :
  ∃f,a_ (ag j) (bV (az dC (eV (ab al (vv j) (vi 1))) (aa k))) (ab al (vv j) (vi 0)) l L S=some (f,S)/\(∀y ∈ f,jG y/\∃r ∈ l,rB r=s/\y=.str (rA r))/\f.length≤l.length:=by
 refine lS (Inv:=λm=>∃d,m=L.set j d) (λv p m u=>?_) ⟨L[j],(iy t).symm⟩;obtain⟨d,rfl⟩:=u;obtain⟨a,b,n,c,x,e,i,F,o,_,_,rfl⟩:=H v p;have g:((L.set j d).set j (qt [.str a,.str b,.str n,.int c,.bl x,.bl e]))[j]? = some (qt [.str a,.str b,.str n,.int c,.bl x,.bl e]):=by rw[dD (by simpa using t)]
 have w:((L.set j d).set j (qt [.str a,.str b,.str n,.int c,.bl x,.bl e]))[k]? = some (qs s):=by rw[a6 (Ne.symm h),a6 (Ne.symm h)];exact z
 exact⟨_,decide (b=s),rfl,⟨_,List.set_set ..⟩,by simp[-List.set_set,g,w],λq=>⟨.str a,by simp[-List.set_set,g],⟨a,i,rfl⟩,_,p,of_decide_eq_true q,rfl⟩⟩
theorem tt(h:l.length≤8):l.length≤1000000:=by lia
theorem nL(d:Int):∃w:Str,(w=a\/w=b)/\L2.atI [P.str a,.str b] (d % 2)=some (.str w):=by
 obtain⟨w,hw,e⟩:=CG (a:=.str a) (b:=.str b) d;rcases hw with rfl|rfl
 .exact⟨_,.inl rfl,e⟩
 .exact⟨_,.inr rfl,e⟩
def ke(s:Str)(l u N:List P)(v:P):Prop:=∃(m:Str)(t:P)(w n:Str),PyData.strOk m=true/\PyData.strOk n=true/\nT N t/\((w="who"/\P.str n ∈ u)\/((w="all"\/w="any")/\∃r ∈ l,rA r=s/\n=rB r))/\v=.tup [.str m,t,.str w,.str n]
variable{u:List P}
theorem ke.ok(a:∀x ∈ N,jG x)(h:ke s l u N v):cb 5 v=true:=by
 obtain⟨m,t,w,f,e,n,k,hw,rfl⟩:=h;have hw:PyData.strOk w=true:=by rcases hw with ⟨rfl,_⟩|⟨rfl|rfl,_⟩<;>simp
 simp[e,n,hw,k.ok a]
variable{n:Nat}
theorem yL(hn:3≤n)(d:Int)(hnm:∀x ∈ nm,jG x)(hw:∀x ∈ u,jG x)(hr:∀c ∈ l,fE c)(hrl:l.length≤8){m:Int}(h1:0≤m)(h2:m≤3) :
  ∃t:List P,t.length≤3/\(∀c ∈ t,ke s l u nm c)/\pureOf (Ph n "_law_sends") [.int d,.str s,.lst nm,.lst u,.lst l,.int m]=some (.lst t):=by
 obtain⟨n,rfl⟩:=fF (n:=n) (by first|assumption|lia);have hm:d % (m+1) < m+1:=dZ _ (by lia);have hm0:0≤d % (m+1):=dt _ (by lia);obtain⟨gs,eg,X,hgl⟩:=u9 (s:=s) hr [qi d,qs s,ql nm,ql u,ql l,qi m,none,none,none,none,none,none,none] 12 1 (by simp) (by lia) rfl [];have W:=kI (gI hw 19);have R:=kI (gI (λx hx=>(X x hx).1) 19);let F:Option D->Option D->Option D->Option D->Lc:=λT U q j=>[qi d,qs s,ql nm,ql u,ql l,qi m,ql gs,qr 0,T,U,q,j]
 let Inv:Nat->Lc->aD->Prop:=λi L S=>∃(t:List P)(T U q j:Option D),t.length≤i/\(∀c ∈ t,ke s l u nm c)/\L=F T U q j/\S=[.lst (t.map .p)]
 obtain⟨L',S',e,t,T,U,q,j,hc,Z,rfl,rfl⟩:=bw (g:=ag 8) (b:=bF (Ph (n+1)) (Ph n)) (Inv:=Inv) (s:=Ev.intsFrom 0 (d % (m+1)).toNat) (k:=0)
  (L:=F none none none none) (S:=[.lst []]) (fun i v L S hv hI=>by
   obtain⟨rfl,hi⟩:=ints_get hv;obtain⟨t,T,U,q,j,hc,Z,rfl,rfl⟩:=hI;simp only[c6];obtain⟨dv,A,y⟩:∃z:Int,(0 < z/\z < 1152921504606846976)/\L2.atI [P.int 4,.int 1000,.int 100000] (i:Int)=some (.int z):=by
    have:i=0\/i=1\/i=2:=by lia
    rcases this with rfl|rfl|rfl
    .exact⟨4,by decide,by simp⟩
    .exact⟨1000,by decide,by simp⟩
    .exact⟨100000,by decide,by simp⟩
   generalize C:d / dv=o;obtain⟨tr,htr,K⟩:=u1 (n:=n+1) (by lia) (o / 12 % 300) hnm;obtain⟨mk,hmk,H⟩:=nL (a:="ma") (b:="mb") o;have omk:PyData.strOk mk=true:=by rcases hmk with rfl|rfl<;>simp
   have B:t.length≤1000000:=by lia
   by_cases O:u≠[]/\o / 2 % 3=1
   .obtain⟨w,E,ew⟩:=eE O.1 (o / 50);obtain⟨w,M,rfl⟩:=hw w E;have hl:=len_pos O.1;refine⟨_,F (qi (i:Int)) (qi o) (qp tr) (qs mk),[.lst ((t++[P.tup [.str mk,tr,.str "who",.str w]]).map D.p)],rfl,?_,_,_,_,_,_,by simp;lia,cC Z ⟨mk,tr,_,w,omk,M,htr,.inl ⟨rfl,E⟩,rfl⟩,rfl,rfl⟩;rw[<- cm];rw[a7 O.1]at W;simp[bF,F,y,A,C,K,H,W,O.2,b7,cy,hl,ew,c8,B]
   .by_cases Q:gs=[]
    .refine⟨_,F (qi (i:Int)) (qi o) (qp tr) (qs mk),[.lst (t.map D.p)],rfl,?_,t,_,_,_,_,by lia,Z,rfl,rfl⟩;rw[Q]at R;by_cases p:u=[]
     .rw [p]at W;simp[bF,F,y,A,C,K,H,W,R,Q,p]
     .rw [a7 p]at W;have h3:¬o / 2 % 3=1:=λz=>O ⟨p,z⟩;simp[bF,F,y,A,C,K,H,W,R,Q,h3]
    .obtain⟨w,E,ew⟩:=eE Q (o / 3);obtain⟨⟨w,M,rfl⟩,r,hrm,hra,N⟩:=X w E;have N:w=rB r:=by cases N;rfl
     have hl:=len_pos Q;rw[a7 Q]at R;have V:∀G:Str,(G="all"\/G="any")->(∀L S,(ab al (aQ (v2 (vt "all") (vt "any"))) (ab dg (ab aZ (ab aE (vv 9) (vi 6)) (vi 2)) (ae bU (v1 (ab AN (vv 8) (vi 1)))))) (F (qi (i:Int)) (qi o) L S) [.lst (t.map .p)]=some (.str G,[.lst (t.map .p)]))->∃L1 L2 S2,ag 8 (.int (i:Int)) (F T U q j)=some L1/\bF (Ph (n+1)) (Ph n) L1 [.lst (t.map .p)]=some (.nx,L2,S2)/\Inv (0+i+1) L2 S2:=λG I f=>by
      have f:=f (qp tr) (qs mk);refine⟨_,F (qi (i:Int)) (qi o) (qp tr) (qs mk),[.lst ((t++[P.tup [.str mk,tr,.str G,.str w]]).map D.p)],rfl,?_,_,_,_,_,_,by simp;lia,cC Z ⟨mk,tr,G,w,omk,M,htr,.inr ⟨I,r,hrm,hra,N⟩,rfl⟩,rfl,rfl⟩;rw[<- cm];unfold bF;generalize (ab al (aQ (v2 (vt "all") (vt "any"))) (ab dg (ab aZ (ab aE (vv 9) (vi 6)) (vi 2)) (ae bU (v1 (ab AN (vv 8) (vi 1))))))=fa at f ⊢;simp only[F]at f ⊢;by_cases p:u=[]
      .rw [p]at W f ⊢;simp[y,A,C,K,H,W,R,b7,cy,hl,ew,c8,B,f]
      .rw [a7 p]at W;have h3:¬o / 2 % 3=1:=λz=>O ⟨p,z⟩;simp[y,A,C,K,H,W,R,h3,b7,cy,hl,ew,c8,B,f]
     by_cases Y:i < 1
     .have J:(i:Int) < 1:=by lia
      obtain⟨G,I,f⟩:=nL (a:="all") (b:="any") (o / 6);have mo:fx (o / 6 % 2) 1=true:=bz (by lia) (by decide);exact V G I λL S=>by simp[F,Y,J,bU,jq,mo,f]
     .have J:¬(i:Int) < 1:=by lia
      have mo:fx (o / 6 % 2) 0=true:=bz (by lia) (by decide);exact V "all" (.inl rfl) λL S=>by simp[F,Y,J,bU,jq,mo]) ⟨[],none,none,none,none,by simp,λ_ h=>(by cases h),rfl,rfl⟩
 refine⟨t,by rw[bt]at hc;lia,Z,?_⟩;have hq:(d % (m+1)).natAbs < 1000000:=by lia
 have hz:0 < m+1:=by lia
 rw[oW,ah];simp[jT,aU,tt hrl,jK,eg,hq,hz];simp[F]at e;simp[e]
@[simp] theorem Hk(L:Lc)(S:aD):gG L S=some (none,S):=rfl
@[simp] theorem Hj(a:EV)(L:Lc)(S:aD):gc a L S=aG (a L S) λv h=>match v with | .int i=>some (some i,h)|_=>none:=rfl
@[simp] theorem H_(x:List P)(lo h:Option Int):Cc (.lst x) lo h=some (.lst (cut x lo h)):=rfl
@[simp] theorem H0(x:List P)(lo h:Option Int):Cc (.tup x) lo h=some (.tup (cut x lo h)):=rfl
theorem kU:(∀x ∈ cut h lo i,x ∈ h)/\(cut h lo i).length≤h.length:=by
 unfold cut;refine⟨λx a=>?_,?_⟩
 .first
   |exact qh (qH a)
   |exact qH (qh a)
 .simp only[iu,qx];lia
def lF(s:Str)(l u:List P)(v:P):Prop:=v=.non\/∃m a i w,PyData.strOk m=true/\PyData.strOk a=true/\PyData.strOk i=true/\PyData.strOk w=true/\(∃r ∈ l,rB r=s/\a=rA r)/\(w=""\/P.str w ∈ u)/\v=.tup [.str m,.str a,.str i,.str w]
noncomputable def more:P->List P
 | .non=>[]
 |_=>[.str "it"]
theorem step_if(ψ ι:Str->GF){d0:Int}(A:∀x ∈ m,jG x)(hw:∀x ∈ u,jG x)(hs:∀x ∈ j,jG x/\∃r ∈ l,rB r=s/\x=.str (rA r)) :
  ∃tk f Y Z,lF s l u tk/\(∀x ∈ f,jG x)/\f.length≤m.length /\
   aL ψ ι [ql (.int d0::ds),qs s,qp rooms,qp cells,ql u,ql l,ql m,ql j,qp .non,ql m,ql [],none,none,none,none,none,none,none] []
    = some (.nx,[ql (.int d0::ds),qs s,qp rooms,qp cells,ql u,ql l,ql m,ql j,qp tk,ql f,ql (more tk),Y,Z,none,none,none,none,none],[]):=by
 have S:=kI (gI (λx K=>(hs x K).1) 19);have N:=kI (gI A 19);have W:=kI (gI hw 19);by_cases c:j≠[]/\d0 % 3=1
 .rw [a7 c.1]at S;obtain⟨s1,Q,d⟩:=eE c.1 (d0 / 24);have n:=len_pos c.1;obtain⟨mk,J,k⟩:=nL (a:="ma") (b:="mb") (d0 / 12);obtain⟨⟨sn,V,rfl⟩,r,O,M,o⟩:=hs s1 Q;have o:sn=rA r:=by cases o;rfl
  have U:PyData.strOk mk=true:=by rcases J with rfl|rfl<;>simp
  have H:∃i f,PyData.strOk i=true/\(∀x ∈ f,jG x)/\f.length≤m.length/\((m≠[]/\d0 / 3 % 2=1/\L2.atI m (-1)=some (.str i)/\f=cut m none (some (-1)))\/((m=[]\/¬d0 / 3 % 2=1)/\i=""/\f=m)):=by
   by_cases v:m≠[]/\d0 / 3 % 2=1
   .obtain⟨x,K,G⟩:=atI_last v.1;obtain⟨x,X,rfl⟩:=A x K;exact⟨x,_,X,λy hy=>A y (kU.1 y hy),kU.2,.inl ⟨v.1,v.2,G,rfl⟩⟩
   .refine⟨_,_,by simp,A,Nat.le_refl _,.inr ⟨?_,rfl,rfl⟩⟩;by_cases z:m=[]
    .exact .inl z
    .exact .inr λq=>v ⟨z,q⟩
  have F:∃w,PyData.strOk w=true/\((u≠[]/\d0 / 6 % 2=1/\P.str w ∈ u/\L2.atI u (d0 / 200 % (u.length:Int))=some (.str w))\/((u=[]\/¬d0 / 6 % 2=1)/\w="")):=by
   by_cases v:u≠[]/\d0 / 6 % 2=1
   .obtain⟨x,K,G⟩:=eE v.1 (d0 / 200);obtain⟨x,X,rfl⟩:=hw x K;exact⟨x,X,.inl ⟨v.1,v.2,K,G⟩⟩
   .refine⟨_,by simp,.inr ⟨?_,rfl⟩⟩;by_cases z:u=[]
    .exact .inl z
    .exact .inr λq=>v ⟨z,q⟩
  obtain⟨i,f,hi,hf,I,p1⟩:=H;obtain⟨w,B,E⟩:=F;refine⟨.tup [.str mk,.str sn,.str i,.str w],f,qs i,qs w,.inr ⟨mk,sn,i,w,U,V,hi,B,⟨r,O,M,o⟩,?_,rfl⟩,hf,I,?_⟩
  .rcases E with ⟨_,_,h,_⟩|⟨_,h⟩
   .exact .inr h
   .exact .inl h
  rcases p1 with ⟨g,R,T,rfl⟩|⟨g,rfl,rfl⟩
  .rw [a7 g]at N;rcases E with ⟨e,C,_,D⟩|⟨e,rfl⟩
   .rw [a7 e]at W;have t:=len_pos e;simp[aL,more,S,c.2,N,R,T,W,C,D,b7,cy,n,t,d,k]
   .rcases e with e|e
    .subst e;simp[aL,more,S,c.2,N,R,T,W,b7,cy,n,d,k]
    .cases p:u.isEmpty<;>(rw[p]at W;simp[aL,more,S,c.2,N,R,T,W,e,b7,cy,n,d,k])
  .rcases g with g|g
   .subst g;rcases E with ⟨e,C,_,D⟩|⟨e,rfl⟩
    .rw [a7 e]at W;have t:=len_pos e;simp[aL,more,S,c.2,N,W,C,D,b7,cy,n,t,d,k]
    .rcases e with e|e
     .subst e;simp[aL,more,S,c.2,N,W,b7,cy,n,d,k]
     .cases p:u.isEmpty<;>(rw[p]at W;simp[aL,more,S,c.2,N,W,e,b7,cy,n,d,k])
   .cases L:f.isEmpty <;> rw [L] at N <;> (
    rcases E with ⟨e,C,_,D⟩|⟨e,rfl⟩
    .rw [a7 e]at W;have t:=len_pos e;simp[aL,more,S,c.2,N,g,W,C,D,b7,cy,n,t,d,k]
    .rcases e with e|e
     .subst e;simp[aL,more,S,c.2,N,g,W,b7,cy,n,d,k]
     .cases p:u.isEmpty<;>(rw[p]at W;simp[aL,more,S,c.2,N,g,W,e,b7,cy,n,d,k]))
 .refine⟨.non,m,none,none,.inl rfl,A,Nat.le_refl _,?_⟩;by_cases z:j=[]
  .subst z;simp[aL,more,S]
  .have z2:¬d0 % 3=1:=λq=>c ⟨z,q⟩;rw[a7 z]at S;simp[aL,more,S,z2]
def oS(s:List P):List P:=s.map λc=>.str (aC c)
theorem nO(e:∀c ∈ a,l_ c):∀x ∈ oS a,jG x:=λx s=>by obtain⟨c,h,rfl⟩:=aX.mp s;obtain⟨x,_,_,_,o,_,_,_,_,rfl⟩:=e c h;exact⟨x,o,rfl⟩
theorem pY(m:∀c ∈ h,l_ c)(L:Lc)(j:Nat)(n:j < L.length)(S:aD) :
  a_ (ag j) gQ (ab al (vv j) (vi 0)) h L S=some (oS h,S):=by
 have:=bx (g:=ag j) (c:=gQ) (e:=ab al (vv j) (vi 0)) (S:=S) (p:=fun _=>true) (f:=fun c=>.str (aC c)) (s:=h) (L:=L) (Inv:=fun s=>∃d,s=L.set j d) (fun v r s b=>by
  obtain⟨d,rfl⟩:=b;obtain⟨x,lo,i,a,t,_,_,_,_,rfl⟩:=m v r;have k:((L.set j d).set j (qt [.str x,.int lo,.int i,.int a]))[j]? = some (qt [.str x,.int lo,.int i,.int a]):=by rw[dD (by simpa using n)]
  exact⟨_,rfl,⟨_,List.set_set ..⟩,rfl,λ_=>by simp[-List.set_set,k,aC]⟩) ⟨L[j],(iy n).symm⟩
 rw[this,qg.mpr λ_ _=>rfl];rfl
def CS(N:List P)(c:P):Prop:=∃x t,PyData.strOk x=true/\nT N t/\c=.tup [.str x,t]
structure Stp(s:Str)(rooms cells whos rs:List P)(rm when tk:P)(chg sn:List P)(rm2:P):Prop where
 h1:rm ∈ rooms
 h2:rm2 ∈ rooms
 wh:vl (oS cells) when
 htk:lF s rs whos tk
 cl:chg.length≤3
 ch:∀c ∈ chg,CS (oS cells++more tk) c
 sl:sn.length≤3
 hsn:∀c ∈ sn,ke s rs whos (oS cells++more tk) c
theorem m5(v:P):∀x ∈ more v,jG x:=λx h=>by
 cases v with
 |non=>cases h
 |_=>exact⟨"it",by simp,by simpa[more] using h⟩
theorem zC(v:P):(more v).length≤1:=by cases v<;>simp[more]
theorem Ba(hn:4≤n)(C K B w:Int)(hrm:∀x ∈ r,jG x)(A:r≠[])(V:∀c ∈ e,l_ c)(hcl:e.length≤3)(hw:∀x ∈ u,jG x)(hr:∀c ∈ l,fE c)(J:l.length≤8) :
  ∃rm R o p Q N,Stp s r e u l rm R o p Q N/\pureOf (Ph n "_law_step") [.lst [.int C,.int K,.int B,.int w],.str s,.lst r,.lst e,.lst u,.lst l]=some (.tup [rm,R,o,.lst p,.lst Q,N]):=by
 obtain⟨n,rfl⟩:=fF (n:=n) (by first|assumption|lia);have e1:=pY V [ql [.int C,.int K,.int B,.int w],qs s,ql r,ql e,ql u,ql l,none,none,none,none,none,none,none,none,none,none,none,none,none] 18 (by simp) [];have d:=nO V;have hnl:(oS e).length=e.length:=by simp[oS]
 generalize U:oS e=f at e1 d hnl;obtain⟨snd,e2,hsn,_⟩:=xq (s:=s) hr [ql [.int C,.int K,.int B,.int w],qs s,ql r,ql e,ql u,ql l,ql f,none,none,none,none,none,none,none,none,none,none,none,none] 18 1 (by simp) (by lia) rfl [];obtain⟨o,fr,q11,q12,htk,Y,hfl,e3⟩:=step_if (Ph (n+1)) (Ph n) (d0:=C) (ds:=[.int K,.int B,.int w]) (rooms:=.lst r) (cells:=.lst e) d hw hsn;have Z:=zC o;have I:=m5 o;generalize hM:more o=O at e3 Z I;have y:∀x ∈ f++O,jG x:=λx hx=>(du.mp hx).elim (d x) (I x)
 have j:f.length+O.length≤1000000:=by lia
 have W:e.length≤1000000:=by lia
 let F:Option D->Option D->Lc:=λq t=>[ql [.int C,.int K,.int B,.int w],qs s,ql r,ql e,ql u,ql l,ql f,ql snd,qp o,ql fr,ql O,q11,q12,qr 0,q,t,none,none]
 let Inv:Nat->Lc->aD->Prop:=λi L S=>∃(H:List P)(q t:Option D),H.length≤i/\(∀c ∈ H,CS (f++O) c)/\L=F q t/\S=[.lst (H.map .p)]
 obtain⟨L',S',e4,p,q,t,E,X,rfl,rfl⟩:=bw (g:=aP [ag 14,ag 15]) (b:=eM (Ph (n+1)) (Ph n)) (Inv:=Inv) (s:=bf 0 fr) (k:=0) (L:=F none none) (S:=[.lst []]) (fun i v L S hv hI=>by
   obtain⟨x,M,rfl⟩:=eA hv;have hi:=aY M;obtain⟨x,ox,rfl⟩:=Y x (bH M);obtain⟨H,q,t,V,ho,rfl,rfl⟩:=hI;have G:H.length≤1000000:=by lia
   obtain⟨a,b,ha,hb,ea,eb⟩:∃a b:Int,(0 < a/\a < 1152921504606846976)/\(0 < b/\b < 1152921504606846976)/\L2.atI [P.int 1,.int 1000,.int 1000000] (i:Int)=some (.int a)/\L2.atI [P.int 2,.int 2000,.int 2000000] (i:Int)=some (.int b):=by
    have:i=0\/i=1\/i=2:=by lia
    rcases this with rfl|rfl|rfl
    .exact⟨1,2,by decide,by decide,by simp,by simp⟩
    .exact⟨1000,2000,by decide,by decide,by simp,by simp⟩
    .exact⟨1000000,2000000,by decide,by decide,by simp,by simp⟩
   by_cases h:K / a % 2=1
   .obtain⟨tr,htr,T⟩:=u1 (n:=n+1) (by lia) (K / b % 300) y;refine⟨_,F (qi (i:Int)) (qs x),[.lst ((H++[P.tup [.str x,tr]]).map D.p)],rfl,?_,_,_,_,by simp;lia,cC ho ⟨x,tr,ox,htr,rfl⟩,rfl,rfl⟩;rw[<- cm];simp[eM,F,ea,eb,ha,hb,h,j,T,c8,G]
   .refine⟨_,F (qi (i:Int)) (qs x),[.lst (H.map D.p)],rfl,?_,H,_,_,by lia,ho,rfl,rfl⟩;simp[eM,F,ea,ha,h]) ⟨[],none,none,by simp,λ_ h=>(by cases h),rfl,rfl⟩
 rw[dn]at E;obtain⟨z,hz0,hz1,hz2⟩:∃z:Int,0≤z/\z≤1/\bU [.bl (decide (3 < (r.length:Int)))]=some (.int z):=by
  by_cases h:3 < (r.length:Int)
  .exact⟨1,by decide,by decide,by simp[h,bU,jq]⟩
  .exact⟨0,by decide,by decide,by simp[h,bU,jq]⟩
 obtain⟨Q,hsl,hsd,e5⟩:=yL (n:=n+1) (by lia) B (s:=s) y hw hr J (m:=2+z) (by lia) (by lia);obtain⟨R,hwh,e6⟩:=Cg (n:=n+1) (by lia) (w % 27000) d;obtain⟨r1,hr1,e7⟩:=eE A (w / 27000);obtain⟨r2,hr2,e8⟩:=eE A (w / 216000);have hl:=len_pos A;refine⟨r1,R,o,p,Q,r2,⟨hr1,hr2,U ▸ hwh,htk,by lia,U ▸ hM ▸ X,hsl,U ▸ hM ▸ hsd⟩,?_⟩;rw[rQ,ah];simp only[F]at e4;simp[k4,aU,W,tt J,jK,e1,e2,lU,e3,e4,j,b7,cy,hz2,e5,e6,hl,e7,e8,eG]
def zS(s:Str)(r c u l:List P)(v:P):Prop:=∃x a w t h n m,PyData.strOk x=true/\Stp s r c u l a w t h n m/\v=.tup [.str x,a,w,t,.lst h,.lst n,m]
structure Fam(rs:List P)(nm:Str)(crew:Nat)(rooms cells whos steps:List P):Prop where
 hnm:PyData.strOk nm=true
 hcr:1≤crew/\crew≤4
 hro:∀x ∈ rooms,jG x
 r0:rooms≠[]
 hce:w4 cells
 cl:cells.length≤3
 hwh:∀x ∈ whos,jG x
 wl:whos.length≤2
 s0:steps≠[]
 sl:steps.length≤8
 hst:∀x ∈ steps,zS nm rooms cells whos rs x
 sd:steps.Pairwise λa b=>aC a≠aC b
def ey(l:List P)(v:P):Prop:=∃n e r c u s,Fam l n e r c u s/\v=.tup [.str n,.int (e:Int),.lst r,.lst c,.lst u,.lst s]
theorem nP(p:3≤n)(s:List Int)(j:Nat)(o:Nat)(L:Lc)(c:j < L.length)(r:L[0]? = some (qp (dc s)))(h:0≠j)(l:o+m≤16)(S:aD) :
  ∃a,a_ (ag j) gQ (ae (pureOf (Ph n "_law_name")) (v2 (vv 0) (ab aw (vi (o:Int)) (vv j)))) (Ev.intsFrom 0 m) L S=some (a,S)/\(∀y ∈ a,jG y)/\a.length=(Ev.intsFrom 0 m).length:=by
 refine kl (Inv:=λf=>∃d,f=L.set j d) (λv q f t=>?_) ⟨L[j],(iy c).symm⟩;obtain⟨d,rfl⟩:=t;obtain⟨i,rfl,u⟩:=dI q;obtain⟨x,w,_,e⟩:=mZ p s (k:=o+i) (by lia);have e:pureOf (Ph n "_law_name") [dc s,.int ((o:Int)+(i:Int))]=some (.str x):=by rw[<- e];rfl
 have g:((L.set j d).set j (qi (0+(i:Int))))[j]? = some (qi (0+(i:Int))):=by rw[dD (by simpa using c)]
 have b:((L.set j d).set j (qi (0+(i:Int))))[0]? = some (qp (dc s)):=by rw[a6 (Ne.symm h),a6 (Ne.symm h)];exact r
 simp only[c6]at g b ⊢;exact⟨_,.str x,rfl,⟨_,List.set_set ..⟩,by simp[-List.set_set,g,b,e],x,w,rfl⟩
theorem E7(A:2≤n)(s:List Int)(f:Int)(D:0≤f)(E:f < 900)(L:Lc)(P:L.length=14)(F:L[0]? = some (qp (dc s)))(x:L[12]? = some (qi f))(S:aD) :
  ∃l z o H:Int,a_ (ag 13) gQ (ae (pureOf (Ph n "_law_mix")) (v2 (ae (pureOf (Ph n "_law_cell_at")) (v2 (vv 0) (ab aw (vi 5) (ab aZ (ab aw (vv 12) (vv 13)) (vi 24))))) (ab aw (ab aw (vi 11) (vv 12)) (vv 13)))) (Ev.intsFrom 0 4) L S=some ([.int l,.int z,.int o,.int H],S):=by
 obtain⟨C,e,y,h⟩:=kl (Q:=fun v=>∃d:Int,v=.int d) (g:=ag 13) (e:=ae (pureOf (Ph n "_law_mix")) (v2 (ae (pureOf (Ph n "_law_cell_at")) (v2 (vv 0) (ab aw (vi 5) (ab aZ (ab aw (vv 12) (vv 13)) (vi 24))))) (ab aw (ab aw (vi 11) (vv 12)) (vv 13)))) (S:=S) (s:=Ev.intsFrom 0 4) (Inv:=fun m=>∃d,m=L.set 13 d) (L:=L) (fun v B m K=>by
  obtain⟨d,rfl⟩:=K;obtain⟨i,rfl,G⟩:=dI B;obtain⟨c,r,I,t,q⟩:=g7 A s (k:=5+(f+(0+(i:Int))) % 24) (p:=11+f+(0+(i:Int))) (by lia) (by lia) (by lia);have w:((L.set 13 d).set 13 (qi (0+(i:Int))))[13]? = some (qi (0+(i:Int))):=by rw[dD (by simp[P])]
  have u:((L.set 13 d).set 13 (qi (0+(i:Int))))[0]? = some (qp (dc s)):=by rw[a6 (by decide),a6 (by decide)];exact F
  have j:((L.set 13 d).set 13 (qi (0+(i:Int))))[12]? = some (qi f):=by rw[a6 (by decide),a6 (by decide)];exact x
  simp only[c6]at w u j t q ⊢;exact⟨_,.int r,rfl,⟨_,List.set_set ..⟩,by simp[-List.set_set,w,u,j,t,q],r,rfl⟩) ⟨L[13]'(by lia),(iy (by lia)).symm⟩
 rw[bt]at h;match C,h with
 | [a,b,c,d],_=>obtain⟨a,rfl⟩:=y a (by simp);obtain⟨b,rfl⟩:=y b (by simp);obtain⟨c,rfl⟩:=y c (by simp);obtain⟨d,rfl⟩:=y d (by simp);exact⟨a,b,c,d,e⟩
theorem xU(hn:5≤n)(B:List Int)(k:Nat)(W:k≤3)(hnm:PyData.strOk M=true)(w:Nat)(hcr:1≤w/\w≤4)(wide:Bool)(hr:∀c ∈ l,fE c)(hrl:l.length≤8) :
  ∃v,ey l v/\(∃tl,v=.tup (.str M::.int (w:Int)::tl))/\pureOf (Ph n "_law_family") [dc B,.int (k:Int),.str M,.int (w:Int),.bl wide,.lst l]=some v:=by
 obtain⟨n,rfl⟩:=fF (n:=n) (by first|assumption|lia);obtain⟨z,t,hz0,hz1,I,ht1,ez,et⟩:∃z t:Int,0≤z/\z≤1/\0 < t/\t≤8/\bU [.bl wide]=some (.int z)/\L2.atI [P.int 3,.int 8] z=some (.int t):=by
  cases wide
  .exact⟨0,3,by decide,by decide,by decide,by decide,by simp[bU,jq],by simp⟩
  .exact⟨1,8,by decide,by decide,by decide,by decide,by simp[bU,jq],by simp⟩
 obtain⟨e,hcl,hc,ec⟩:=Av (n:=n+1) (by lia) B (f:=(k:Int)) (m:=2+z) (by lia) (by lia) (by lia);obtain⟨c9,e91⟩:=sH (n:=n+1) (by lia) B (k:=2+(k:Int)) (by lia);obtain⟨J,ha9,e92⟩:=rf (n:=n+1) (by lia) c9 (p:=9) (by lia) (by lia);obtain⟨E,ha8,e82⟩:=rf (n:=n+1) (by lia) c9 (p:=8) (by lia) (by lia);obtain⟨V,ha7,e72⟩:=rf (n:=n+1) (by lia) c9 (p:=7) (by lia) (by lia);have h9a:0≤J % t:=dt _ (by lia);have h9b:J % t < t:=dZ _ I;have h7a:0≤V % t:=dt _ (by lia);have h7b:V % t < t:=dZ _ I;have h8a:0≤E % (2+z):=dt _ (by lia);have h8b:E % (2+z) < 2+z:=dZ _ (by lia);let A:List (Option D):=[qp (dc B),qi (k:Int),qs M,qi (w:Int),qp (.bl wide),ql l]
 obtain⟨r,er,T,o⟩:=nP (n:=n+1) (by lia) B 11 4 (A++[ql e,qi J,none,none,none,none,none]) (by simp[A]) rfl (by decide) (m:=(1+J % t).toNat) (by lia) [];obtain⟨u,ew,hw,hwl⟩:=nP (n:=n+1) (by lia) B 11 10 (A++[ql e,qi E,ql r,none,none,none,none]) (by simp[A]) rfl (by decide) (m:=(E % (2+z)).toNat) (by lia) [];rw[bt]at o hwl;have R:r≠[]:=λq=>by rw[q]at o;simp at o;lia
 let F:Option D->Option D->Option D->Lc:=λN a d=>A++[ql e,N,ql r,ql u,qr 0,a,d]
 let Inv:Nat->Lc->aD->Prop:=λi L S=>∃(y:List P)(N a d:Option D),y.length=i/\((∀c ∈ y,zS M r e u l c)/\∀k v,y[k]? = some v->hd (aC v)=some (105+k))/\L=F N a d/\S=[.lst (y.map .p)]
 obtain⟨L',S',e4,stp,N,a,d,G,⟨hst,U⟩,rfl,rfl⟩:=bw (g:=ag 11) (b:=fq (Ph (n+1)) (Ph n)) (Inv:=Inv) (s:=Ev.intsFrom 0 (1+V % t).toNat) (k:=0) (L:=F (qi E) none none) (S:=[.lst []]) (fun i v L S K hI=>by
   obtain⟨rfl,hi⟩:=ints_get K;obtain⟨y,N,a,d,hc1,⟨ho,hon⟩,rfl,rfl⟩:=hI;simp only[c6];have m1:fx 8 (k:Int)=true:=bz (by decide) (by lia);have m2:fx 4 (8 * (k:Int)+(i:Int))=true:=bz (by decide) (by lia);obtain⟨d0,d1,d2,d3,ed⟩:=E7 (n:=n+1) (by lia) B (4 * (8 * (k:Int)+(i:Int))) (by lia) (by lia) (F N (qi (i:Int)) (qi (4 * (8 * (k:Int)+(i:Int))))++[none]) rfl rfl rfl [.lst (y.map .p)];obtain⟨x,hx,hxh,ex⟩:=mZ (n:=n+1) (by lia) B (k:=8+i) (by lia);have ex:pureOf (Ph (n+1) "_law_name") [dc B,.int (8+(i:Int))]=some (.str x):=by rw[<- ex];rfl
   obtain⟨X,wh,Z,H,Y,C,hys,es⟩:=Ba (n:=n+1) (by lia) d0 d1 d2 d3 (s:=M) T R hc.1 (by lia) hw hr hrl;have Q:y.length≤1000000:=by lia
   have O:aw (.tup [.str x]) (.tup [X,wh,Z,.lst H,.lst Y,C])=some (.tup [.str x,X,wh,Z,.lst H,.lst Y,C]):=rfl;refine⟨_,F (ql [.int d0,.int d1,.int d2,.int d3]) (qi (i:Int)) (qi (4 * (8 * (k:Int)+(i:Int)))),[.lst ((y++[P.tup [.str x,X,wh,Z,.lst H,.lst Y,C]]).map D.p)],rfl,?_,_,_,_,_,by simp;lia,⟨cC ho ⟨x,X,wh,Z,H,Y,C,hx,hys,rfl⟩,fun k v K=>by
    rcases Nat.lt_or_ge k y.length with W|W
    .rw [List.getElem?_append_left W]at K;exact hon k v K
    .rw [fB W]at K;have hk0:k-y.length=0:=by
      rcases Nat.eq_zero_or_pos (k-y.length) with h|h
      .exact h
      .rw [qJ (by simp;lia)]at K;cases K
     rw[hk0]at K;cases K;show hd x=_;rw[hxh];congr 1;lia⟩,rfl,rfl⟩
   rw[<- cm];simp only[F,A,qv,fX]at ed;simp[fq,F,A,m1,m2,aU,bt,jK,ed,ex,es,O,c8,Q]) ⟨[],_,none,none,rfl,⟨λ_ h=>(by cases h),λ_ _ h=>(by simp at h)⟩,rfl,rfl⟩
 rw [bt] at G;refine⟨_,⟨M,w,r,e,u,stp,⟨hnm,hcr,T,R,hc,by lia,hw,by lia,fun q=>by rw [q] at G;simp at G;lia,by lia,hst,uU.mpr fun i j hi hj hij q=>by
  have h1:=U i _ (cK hi);have h2:=U j _ (cK hj);rw[q,h2]at h1;have:=Option.some.inj h1
  lia⟩,rfl⟩,⟨_,rfl⟩,?_⟩
 have hz2:0 < 2+z:=by lia
 have q1:(1+J % t).natAbs < 1000000:=by lia
 have q2:(1+V % t).natAbs < 1000000:=by lia
 have q3:(E % (2+z)).natAbs < 1000000:=by lia
 have q4:(1+J % t).toNat≤1000000:=by lia
 have q5:(E % (2+z)).toNat≤1000000:=by lia
 rw[og,ah];simp only[F,A,qv,fX]at e4 er ew;simp only[show((4:Nat):Int)=4 from rfl]at er;simp only[show((10:Nat):Int)=10 from rfl]at ew;simp[jt,ez,et,ec,e91,e92,e82,e72,I,hz2,q1,q2,q3,q4,q5,aU,bt,jK,er,ew,e4]
theorem tH(K:3≤n)(c:List Int)(j:Nat)(L:Lc)(o:j < L.length)(H:L[0]? = some (qp (dc c)))(b:0≠j)(A:m≤16)(S:aD) :
  ∃q,a_ (ag j) gQ (ae (pureOf (Ph n "_law_name")) (v2 (vv 0) (vv j))) (Ev.intsFrom 0 m) L S=some (q,S)/\(∀y ∈ q,jG y)/\(∀(i:Nat) y,q[i]? = some y->∃x,y=.str x/\hd x=some (97+i))/\q.length=(Ev.intsFrom 0 m).length:=by
 let f:P->P:=λv=>(pureOf (Ph n "_law_name") [dc c,v]).getD .non
 have w:∀i,i < m->∃x,PyData.strOk x=true/\hd x=some (97+i)/\pureOf (Ph n "_law_name") [dc c,.int (i:Int)]=some (.str x)/\f (.int (i:Int))=.str x:=λi e=>by obtain⟨x,t,u,r⟩:=mZ K c (k:=i) (by lia);exact⟨x,t,u,r,by simp[f,r]⟩
 refine⟨(Ev.intsFrom 0 m).map f,?_,λy a=>?_,λi y a=>?_,by simp⟩
 .rw [bx (p:=λ_=>true) (f:=f) (Inv:=λg=>∃d,g=L.set j d) (λv h g F=>?_) ⟨L[j],(iy o).symm⟩,qg.mpr λ_ _=>rfl];obtain⟨d,rfl⟩:=F;obtain⟨i,rfl,e⟩:=dI h;obtain⟨x,t,_,r,s⟩:=w i e;have l:((L.set j d).set j (qi (0+(i:Int))))[j]? = some (qi (0+(i:Int))):=by
   rw[dD (by simpa using o)]
  have z:((L.set j d).set j (qi (0+(i:Int))))[0]? = some (qp (dc c)):=by rw[a6 (Ne.symm b),a6 (Ne.symm b)];exact H
  simp only[c6]at l z ⊢;exact⟨_,rfl,⟨_,List.set_set ..⟩,rfl,λ_=>by rw[s];simp[-List.set_set,l,z,r]⟩
 .obtain⟨v,h,rfl⟩:=aX.mp a;obtain⟨i,rfl,e⟩:=dI h;obtain⟨x,t,_,_,s⟩:=w i e;rw[c6,s];exact⟨x,t,rfl⟩
 .rw [List.getElem?_map]at a;cases h:(Ev.intsFrom 0 m)[i]? with
  |none=>rw[h]at a;cases a
  |some v=>rw[h]at a;cases a;obtain⟨rfl,e⟩:=ints_get h;obtain⟨x,_,u,_,s⟩:=w i e;exact⟨x,by rw[c6,s],u⟩
noncomputable def f8:P->Nat
 | .tup (_::.int c::_)=>c.toNat
 |_=>0
def zQ(v:P):Prop:=∃(k f s:Str),(k="weak"\/k="strong")/\PyData.strOk f=true/\PyData.strOk s=true/\v=.tup [.str k,.str f,.str s]
structure Pln(fams roads wishes:List P):Prop where
 hf:∀f ∈ fams,ey roads f
 cr:∃c,(∀f ∈ fams,f8 f≤c)/\fams.length * c≤4
 f0:1≤fams.length/\fams.length≤4
 hr:∀r ∈ roads,fE r
 ra:∀r ∈ roads,(∃f ∈ fams,aC f=rA r)/\∃f ∈ fams,aC f=rB r
 rl:roads.length≤8
 hw:∀w ∈ wishes,zQ w
 wl:wishes.length≤6
 rd:roads.Pairwise RD
theorem wY(f:h->a)(x:List h)(i:Int):L2.atI (x.map f) i=(L2.atI x i).map f:=by
 unfold L2.atI;rw[a9];cases L2.xK x.length i with
 |none=>rfl
 |some j=>simp
theorem Bw(hn:6≤n)(U:List Int):∃l H y,Pln l H y/\pureOf (Ph n "_law_plan") [dc U,.int 3]=some (.tup [.lst l,.lst H,.lst y]):=by
 obtain⟨n,rfl⟩:=fF (n:=n) (by first|assumption|lia);obtain⟨o,e0⟩:=sH (n:=n+1) (by lia) U (k:=0) (by lia);generalize hwd:decide (o / 64 % 8=1)=wide;obtain⟨z,t,hz0,hz1,Y,ht1,ez,et⟩:∃z t:Int,0≤z/\z≤1/\0 < t/\t≤4/\bU [.bl wide]=some (.int z)/\L2.atI [P.int 2,.int 4] z=some (.int t):=by
  cases wide
  .exact⟨0,2,by decide,by decide,by decide,by decide,by simp[bU,jq],by simp⟩
  .exact⟨1,4,by decide,by decide,by decide,by decide,by simp[bU,jq],by simp⟩
 have hm0:0≤o % t:=dt _ (by lia);have hm1:o % t < t:=dZ _ Y;obtain⟨m,hm⟩:∃m:Nat,1+o % t=(m:Int):=⟨(1+o % t).toNat,by lia⟩;have hm2:1≤m/\m≤4:=by lia
 obtain⟨K,en,hnm,hnh,hnl⟩:=tH (n:=n+1) (by lia) U 8 [qp (dc U),qi 3,qi o,qp (.bl wide),qi (m:Int),none,none,none,none,none,none,none,none,none] (by simp) rfl (by decide) (m:=m) (by lia) [];rw [bt] at hnl;obtain⟨H,⟨hrl,hr,hrd⟩,er⟩:=yU (n:=n+1) (by lia) U hnm (fun i j x h1 h2=>by
  obtain⟨a,rfl,ha⟩:=hnh i _ h1;obtain⟨b,e,hb⟩:=hnh j _ h2;cases e;rw[ha]at hb;have:=Option.some.inj hb
  lia) (by lia) (m:=2+z) (by lia) (by lia)
 obtain⟨b,hb0,hb1,hbm,eb⟩:∃b:Int,0 < b/\b≤4/\m * b.toNat≤4/\L2.atI [P.int (3+z),.int 2,.int 1,.int 1] ((m:Int)-1)=some (.int b):=by
  have:m=1\/m=2\/m=3\/m=4:=by lia
  rcases this with rfl|rfl|rfl|rfl
  .exact⟨3+z,by lia,by lia,by lia,by simp⟩
  .exact⟨2,by decide,by decide,by decide,by simp⟩
  .exact⟨1,by decide,by decide,by decide,by simp⟩
  .exact⟨1,by decide,by decide,by decide,by simp⟩
 let F:Option D->Option D->Option D->Option D->Option D->Option D->Lc:=λR V B q11 N O=>[qp (dc U),qi 3,qi o,qp (.bl wide),qi (m:Int),ql K,ql H,qr 0,R,V,B,q11,N,O]
 let Inv:Nat->Lc->aD->Prop:=λi L S=>∃(I:List P)(R V B:Option D),I.length=i/\(∀c ∈ I,ey H c/\f8 c≤b.toNat)/\(∀j x,K[j]? = some x->j < i->∃f ∈ I,x=.str (aC f))/\L=F R V B none none none/\S=[.lst (I.map .p)]
 obtain⟨L',S',e1,l,R,V,B,hfl,X,hfn,rfl,rfl⟩:=bw (g:=aP [ag 8,ag 9]) (b:=ga (Ph (n+1)) (Ph n)) (Inv:=Inv) (s:=bf 0 K) (k:=0) (L:=F none none none none none none) (S:=[.lst []]) (fun i v L S hv hI=>by
   obtain⟨x,Z,rfl⟩:=eA hv;have hi:=aY Z;obtain⟨nm,hnm1,rfl⟩:=hnm x (bH Z);obtain⟨I,R,V,B,hc,ho,hon,rfl,rfl⟩:=hI;obtain⟨a,ha,ea⟩:∃a:Int,(0 < a/\a < 1152921504606846976)/\L2.atI [P.int 4,.int 12,.int 16,.int 16] (i:Int)=some (.int a):=by
    have:i=0\/i=1\/i=2\/i=3:=by lia
    rcases this with rfl|rfl|rfl|rfl
    .exact⟨4,by decide,by simp⟩
    .exact⟨12,by decide,by simp⟩
    .exact⟨16,by decide,by simp⟩
    .exact⟨16,by decide,by simp⟩
   have hb2:0≤o / a % b:=dt _ (by lia);have hb3:o / a % b < b:=dZ _ hb0;obtain⟨cr,hcr⟩:∃cr:Nat,1+o / a % b=(cr:Int):=⟨(1+o / a % b).toNat,by lia⟩;obtain⟨v,hv2,⟨tl,hv3⟩,ev⟩:=xU (n:=n+1) (by lia) U i (by lia) hnm1 cr (by lia) wide (λr h=>(hr r h).1) hrl;have M:I.length≤1000000:=by lia
   refine⟨_,F (qi (i:Int)) (qs nm) (qi (cr:Int)) none none none,[.lst ((I++[v]).map D.p)],rfl,?_,_,_,_,_,by simp;lia,cC ho ⟨hv2,?_⟩,λj x hj hji=>?_,rfl,rfl⟩
   .rw [<- cm];simp[ga,F,ea,ha,ez,eb,hb0,hcr,ev,c8,M]
   .rw [hv3];simp[f8];lia
   .by_cases hjj:j < i
    .obtain⟨f,W,e⟩:=hon j x hj (by lia);exact⟨f,fA _ W,e⟩
    .have:j=i:=by lia
     subst this;rw[Z]at hj;cases hj;exact⟨v,by simp,by rw[hv3];rfl⟩) ⟨[],none,none,none,rfl,λ_ h=>(by cases h),λ_ _ _ h=>(by lia),rfl,rfl⟩
 have Q:l.length=m:=by rw[hfl,dn,hnl];lia
 have hf0:l≠[]:=λq=>by rw[q]at Q;simp at Q;lia
 have T:∀x ∈ K,∃f ∈ l,x=.str (aC f):=λx hx=>by obtain⟨j,hj,e⟩:=lj.mp hx;exact hfn j x (by rw[cK hj,e]) (by rw[dn];lia)
 let Inv3:Nat->Lc->aD->Prop:=λi L S=>∃(I:List P)(R N O:Option D),I.length=i/\(∀c ∈ I,zQ c)/\L=F R V B (qr 1) N O/\S=[.lst (l.map .p),.lst (I.map .p)]
 obtain⟨w,hw0,hw1,ew⟩:∃w:Int,0≤w/\w≤1/\bU [.bl (wide && decide (o % 3=1))]=some (.int w):=by
  cases (wide && decide (o % 3=1))
  .exact⟨0,by decide,by decide,rfl⟩
  .exact⟨1,by decide,by decide,rfl⟩
 obtain⟨L',S',e2,y,q8',N,O,hwl,hwi,rfl,rfl⟩:=bw (g:=ag 8) (b:=f_ (Ph (n+1)) (Ph n)) (Inv:=Inv3) (s:=Ev.intsFrom 0 (o / 48 % 3+4 * w).toNat) (k:=0) (L:=F R V B (qr 1) none none) (S:=[.lst (l.map .p),.lst []]) (fun i v L S hv hI=>by
   obtain⟨rfl,hi⟩:=ints_get hv;obtain⟨I,R,N,O,hc,ho,rfl,rfl⟩:=hI;simp only[c6];obtain⟨c,d,hd,e3,e4⟩:=g7 (n:=n+1) (by lia) U (k:=4) (p:=20+(i:Int)) (by lia) (by lia) (by lia);obtain⟨f,W,ef⟩:=eE hf0 d;rw[Q]at ef;obtain⟨nm,J,E,C,u,A,G,rfl⟩:=(X f W).1;obtain⟨s,hs,es⟩:=eE G.s0 (d / 8);have hls:=len_pos G.s0;obtain⟨x,rm,wh,tk,chg,sn,rm2,hx,hys,rfl⟩:=G.hst s hs;obtain⟨mk,hmk,emk⟩:=nL (a:="weak") (b:="strong") (d / 4);have M:I.length≤1000000:=by lia
   have ef2:L2.atI (l.map D.p) (d % (m:Int))=qt [.str nm,.int (J:Int),.lst E,.lst C,.lst u,.lst A]:=by rw[wY,ef];rfl
   have hmp:(0:Int) < (m:Int):=by lia
   have hmp2:0 < m:=by lia
   refine⟨_,F (qi (i:Int)) V B (qr 1) (qi d) (qt [.str nm,.int (J:Int),.lst E,.lst C,.lst u,.lst A]),[.lst (l.map .p),.lst ((I++[P.tup [.str mk,.str nm,.str x]]).map D.p)],rfl,?_,_,_,_,_,by simp;lia,cC ho ⟨mk,nm,x,hmk,G.hnm,hx,rfl⟩,rfl,rfl⟩;rw[<- cm];have e5:L2.atI [P.str nm,.int (J:Int),.lst E,.lst C,.lst u,.lst A] 5=some (.lst A):=aF (by decide) rfl;simp[f_,F,e3,e4,hmp,hmp2,ef2,e5,emk,b7,cy,hls,es,c8,M]) ⟨[],_,none,none,rfl,λ_ h=>(by cases h),rfl,rfl⟩
 rw[bt]at hwl;refine⟨l,H,y,⟨λf h=>(X f h).1,⟨b.toNat,λf h=>(X f h).2,by rw[Q];exact hbm⟩,by lia,λr h=>(hr r h).1,λr h=>⟨?_,?_⟩,hrl,hwi,by lia,hrd⟩,?_⟩
 .obtain⟨f,W,e⟩:=T _ (hr r h).2.1;exact⟨f,W,(P.str.inj e).symm⟩
 .obtain⟨f,W,e⟩:=T _ (hr r h).2.2;exact⟨f,W,(P.str.inj e).symm⟩
 have q1:(o / 48 % 3+4 * w).natAbs < 1000000:=by lia
 have q2:fx 4 w=true:=bz (by decide) (by lia);have q3:m < 1000000:=by lia
 have q4:m≤1000000:=by lia
 have t0:toP 9 (.ref 0) [.lst (l.map .p),.lst (y.map .p)]=some (.lst l,[.fz (.lst l),.lst (y.map .p)]):=eG rfl;have t1:toP 9 (.ref 1) [.fz (.lst l),.lst (y.map .p)]=some (.lst y,[.fz (.lst l),.fz (.lst y)]):=eG rfl;rw[rR,ah];simp only[F]at e1 e2;cases wide
 .simp only[Bool.false_and]at ew;have hzw:z=w:=by rw[ez]at ew;cases ew;rfl
  subst hzw;simp[iM,e0,hwd,ez,et,Y,hm,q1,q2,q3,q4,aU,bt,jK,en,er,e1,ew,e2,t0,t1]
 .simp only[Bool.true_and]at ew;simp[iM,e0,hwd,ez,et,Y,hm,q1,q2,q3,q4,aU,bt,jK,en,er,e1,ew,e2,t0,t1]
end My
namespace My
open PySem L2 Ev
section
variable{m:List P}
def hw:Nat->List P->List (Nat×P)
 |_,[]=>[]
 |k,f::r=>List.replicate (f8 f) (k,f)++hw (k+1) r
theorem ey.crew(h:ey m f):f8 f≤4:=by obtain⟨n,c,r,a,w,s,x,rfl⟩:=h;simpa[f8] using x.hcr.2
theorem vm:∀{a:List P}(k:Nat),(∀f ∈ a,ey m f)->(hw k a).length≤4 * a.length
 | [],k,_=>by simp[hw]
 |f::r,k,h=>by have:=vm (a:=r) (k+1) λx e=>h x (aS _ e);have c:=(h f List.mem_cons_self).crew;simp[hw];lia
theorem lG:∀{a:List P}{k:Nat}{x:Nat×P},x ∈ hw k a->∃j,x.1=k+j/\a[j]? = some x.2
 | [],k,x,h=>by simp[hw]at h
 |f::r,k,x,h=>by
  unfold hw at h;rcases du.mp h with h|h
  .obtain⟨_,rfl⟩:=qf.mp h;exact⟨0,by simp,by simp⟩
  .obtain⟨j,s,e⟩:=lG h;exact⟨j+1,by lia,by simpa using e⟩
def homes(f:List P):List P:=(hw 0 f).map λx=>.int (x.1:Int)
def aq(f:List P):List P:=(hw 0 f).map (·.2)
theorem gy(S:aD)(x:SO):(S++[x])[S.length]? = some x:=by simp
theorem ik(k:Nat):((k+1:Nat):Int)=(k:Int)+1:=by lia
theorem wH(z y:Str->GF)(S:aD)(l:P):∀(b:List P)(k:Nat)(n:List P)(g i:Option D),(∀f ∈ b,ey m f)->n.length+4 * b.length≤1000 ->
  ∃q v,aR (aP [ag 2,ag 3]) (eR z y) (bf (k:Int) b) [qp l,qr S.length,g,i] (S++[.lst (n.map .p)])=some (.nx,[qp l,qr S.length,q,v],S++[.lst ((n++(hw k b).map λx=>P.int (x.1:Int)).map .p)])
 | [],k,n,g,i,_,_=>⟨g,i,by simp[bf,aR,hw]⟩
 |f::r,k,n,g,i,h,F=>by
  obtain⟨u,c,o,a,w,s,H,rfl⟩:=h f List.mem_cons_self;have A:=H.hcr.2;simp only[bc]at F;obtain⟨q,v,e⟩:=wH z y S l r (k+1) (n++List.replicate c (P.int (k:Int))) (qi (k:Int)) (qt [.str u,.int (c:Int),.lst o,.lst a,.lst w,.lst s]) (λx K=>h x (aS _ K)) (by simp;lia);refine⟨q,v,?_⟩;have j:(hw k (.tup [.str u,.int (c:Int),.lst o,.lst a,.lst w,.lst s]::r)).map (λx=>P.int (x.1:Int))=List.replicate c (P.int (k:Int))++(hw (k+1) r).map (λx=>P.int (x.1:Int)):=by simp[hw,f8]
  rw[j,<- List.append_assoc];unfold bf;rw[ik]at e;refine(bu (y:=[qp l,qr S.length,qi (k:Int),qt [.str u,.int (c:Int),.lst o,.lst a,.lst w,.lst s]]) (L2:=[qp l,qr S.length,qi (k:Int),qt [.str u,.int (c:Int),.lst o,.lst a,.lst w,.lst s]]) (J:=S++[.lst ((n++List.replicate c (P.int (k:Int))).map .p)]) rfl ?_).trans e;have d:c≤1000000:=by lia
  have p:c < 1000000:=by lia
  have t:n.length+c≤1000000:=by lia
  simp[eR,c8,d,p,t]
theorem C2(a:2≤n)(h:∀f ∈ s,ey m f)(l:s.length≤4)(r w:P)(S:aD):Ph n "families_of" [.p (.tup [.lst s,r,w])] S=some (.ref S.length,S++[.lst ((homes s).map .p)]):=by obtain⟨n,rfl⟩:=fF (n:=n) (by first|assumption|lia);obtain⟨q,k,e⟩:=wH (Ph (n+1)) (Ph n) S (.tup [.lst s,r,w]) s 0 [] none none h (by simp;lia);rw[mx];simp only[fX,gB]at e;have x:=e;rw[show((0:Nat):Int)=0 from rfl]at x;simp[cL,iY,x,homes]
theorem wG(x:2≤n)(h:∀f ∈ s,ey m f)(l:s.length≤4)(r w:P):pureOf (Ph n "families_of") [.tup [.lst s,r,w]]=some (.lst (homes s)):=by unfold pureOf;rw[List.map_cons,gB,C2 x h l r w []];simp
def ao(f:List P):LS:=(aq f).map aC
theorem ig(h:∀f ∈ s,ey m f)(a:f ∈ aq s):ey m f:=by unfold aq at a;obtain⟨x,n,rfl⟩:=aX.mp a;obtain⟨j,_,e⟩:=lG n;exact h _ (bH e)
noncomputable def bS(N:LS)(s:Str):List Nat:=(List.range N.length).filter λi=>decide (N[i]? = some s)
theorem wL:∀(xs:List P)(k:Nat),bf (k:Int) xs=(List.range' k xs.length).map λi=>.tup [.int (i:Int),(xs[i-k]?).getD .non]
 | [],k=>rfl
 |x::r,k=>by
  unfold bf;have h:=wL r (k+1);rw[ik]at h;rw[h,bc,qy,List.map_cons];simp only[Nat.sub_self];congr 1;refine List.map_congr_left λi a=>?_
  have:=(List.mem_range'_1.mp a).1;rw[show i-k=(i-(k+1))+1 by lia,List.getElem?_cons_succ]
theorem wM(xs:List P):bf 0 xs=(List.range xs.length).map λi=>.tup [.int (i:Int),(xs[i]?).getD .non]:=by have:=wL xs 0;rw[List.range_eq_range'];simpa using this
noncomputable def pr(road:P)(n o:Nat):P:=.tup [road,.int (n:Int),.int (o:Int)]
def uM(N:LS)(road:P):List P:=(bS N (rA road)).flatMap λn=>((bS N (rB road)).filter λo=>!decide (n=o)).map λo=>pr road n o
def a8(N:LS)(r:List P):List P:=r.flatMap (uM N)
noncomputable def bn(s:List Nat):List P:=s.map λ(i:Nat)=>P.int (i:Int)
theorem dR(N:LS)(s:Str):(bS N s).length≤N.length:=by unfold bS;exact aM (hJ _ _) (by simp)
theorem qR(n:Nat)(road:P)(os:List Nat):((os.filter λo=>!decide (n=o)).map λo=>pr road n o).length≤os.length:=by rw[a9];exact hJ _ _
theorem qX(N:LS)(road:P)(os:List Nat)(h:os.length≤16):∀(s:List Nat),(s.flatMap λn=>(os.filter λo=>!decide (n=o)).map λo=>pr road n o).length≤16 * s.length
 | []=>by simp
 |i::s=>by
  have:=qX N road os h s;have:=qR i road os
  simp only[hE,cJ,bc];lia
theorem wE:∀{a:List P}(k:Nat),(∀f ∈ a,f8 f≤e)->(hw k a).length≤a.length * e
 | [],k,_=>by simp[hw]
 |f::r,k,h=>by have:=wE (a:=r) (k+1) λx s=>h x (aS _ s);have c:=h f List.mem_cons_self;simp[hw,Nat.add_mul];lia
theorem eT(h:Pln f e s):(aq f).length≤4:=by
 obtain⟨c,x,a⟩:=h.cr;have:=wE 0 x
 unfold aq;simp;lia
theorem lI(h:Pln f e s):(ao f).length≤4:=by unfold ao;rw[a9];exact eT h
end
section
variable{m:List P}
theorem zZ(h:e ∈ homes s):∃p f,e=.int ((p:Nat):Int)/\s[p]? = some f/\f ∈ aq s:=by unfold homes at h;obtain⟨x,a,rfl⟩:=aX.mp h;obtain⟨j,n,k⟩:=lG a;exact⟨x.1,x.2,rfl,by rw[n,eN];exact k,aX.mpr ⟨x,a,rfl⟩⟩
theorem xO(h:∀p x,s[p]? = some x->g (.int ((p:Nat):Int))=f x):(homes s).map g=(aq s).map f:=by
 unfold homes aq;rw[j1,j1];refine List.map_congr_left λx n=>?_
 obtain⟨j,e,a⟩:=lG n;exact h x.1 x.2 (by rw[e,eN];exact a)
theorem gZ(xs:List e):xs.filter (λ_=>true)=xs:=qg.mpr λ_ _=>rfl
theorem lH:(homes f).length=(aq f).length:=by simp[homes,aq]
theorem bo(h:xs[e]? = some s):L2.atI xs ((e:Nat):Int)=some s:=aF (by lia) (by simpa using h)
theorem y4(q:∀f ∈ s,ey m f)(r w:P)(S:aD):a_ (ag 7) gQ (ab al (ab al (ab al (vv 0) (vi 0)) (vv 7)) (vi 0)) (homes s) [qt [.lst s,r,w],none,none,none,none,none,none,none] S=some ((ao s).map .str,S):=by
 rw[bx (p:=λ_=>true) (f:=λv=>match v with | .int i=>(match s[i.toNat]? with|some f=>.str (aC f)|none=>.non)|_=>.non) (Inv:=λL=>∃d,L=[qt [.lst s,r,w],none,none,none,none,none,none,d]) (λv g L b=>?_) ⟨none,rfl⟩]
 .rw [gZ,xO (f:=λf=>.str (aC f)) λp x j=>by simp[j]];simp[ao]
 .obtain⟨d,rfl⟩:=b;obtain⟨p,f,rfl,n,h⟩:=zZ g;obtain⟨l,c,o,a,k,t,u,rfl⟩:=ig q h;have e:=bo n;exact⟨[qt [.lst s,r,w],none,none,none,none,none,none,qi (p:Int)],rfl,⟨_,rfl⟩,rfl,λ_=>by simp[e,n,aC]⟩
def oth(N:LS)(s:Str)(n:Nat):List Nat:=(bS N s).filter λo=>!decide (n=o)
theorem xw(N:LS)(a b:Str)(k:P)(c:Int)(x s:Bool)(l r:D)(o:Nat)(q n:Option D)(S:aD):a_ (ag 7) (fV (bV (az ma (aa 7) (aa 4))) (bV (az dC (eV (ab al (vv 1) (vv 7))) (eV (ab al (vv 3) (vi 1)))))) (vv 7) (Ev.intsFrom 0 N.length)
  [some l,ql (N.map .str),some r,qt [.str a,.str b,k,.int c,.bl x,.bl s],qi (o:Int),q,n,none] S=some (bn (oth N b o),S):=by
 rw[bx (p:=λv=>match v with | .int i=>(!decide (o=i.toNat)) && decide (N[i.toNat]? = some b)|_=>false) (f:=id) (Inv:=λL=>∃d,L=[some l,ql (N.map .str),some r,qt [.str a,.str b,k,.int c,.bl x,.bl s],qi (o:Int),q,n,d]) (λv j L w=>?_) ⟨none,rfl⟩]
 .congr 2;unfold Ev.intsFrom bn oth bS;rw[mP,kA,List.filter_filter];simp only[c6];congr 1
 .obtain⟨d,rfl⟩:=w;obtain⟨i,rfl,u⟩:=dI j;simp only[c6];have g:N[i]? = some N[i]:=cK u;have e:L2.atI (N.map P.str) (i:Int)=some (.str N[i]):=bo (by rw[List.getElem?_map,g];rfl);refine⟨[some l,ql (N.map .str),some r,qt [.str a,.str b,k,.int c,.bl x,.bl s],qi (o:Int),q,n,qi (i:Int)],rfl,⟨_,rfl⟩,?_,λ_=>by simp⟩;by_cases h:o=i
  .simp [h]
  .have m:¬(i:Int)=(o:Int):=by lia
   have t:¬i=o:=λz=>h z.symm;simp[h,m,t,e,g];first|done|exact decide_eq_decide.mpr Iff.rfl
theorem Bs(road:P)(n:Nat)(L:Lc)(l:L.length=8)(g:L[3]? = some (qp road))(x:L[4]? = some (qi (n:Int)))(os:List Nat)(S:aD):a_ (ag 7) gQ (aA (v3 (vv 3) (vv 4) (vv 7))) (bn os) L S=some (os.map λo=>pr road n o,S):=by
 rw[bx (p:=λ_=>true) (f:=λv=>.tup [road,.int (n:Int),v]) (Inv:=λh=>∃d,h=L.set 7 d) (λv b h a=>?_) ⟨L[7],(iy (by lia)).symm⟩]
 .rw [gZ];unfold bn pr;rw[j1];rfl
 .obtain⟨d,rfl⟩:=a;have k:((L.set 7 d).set 7 (qp v))[7]? = some (qp v):=by rw[dD (by simp[l])]
  have e:((L.set 7 d).set 7 (qp v))[3]? = some (qp road):=by rw[a6 (by decide),a6 (by decide)];exact g
  have s:((L.set 7 d).set 7 (qp v))[4]? = some (qi (n:Int)):=by rw[a6 (by decide),a6 (by decide)];exact x
  exact⟨_,rfl,⟨_,List.set_set ..⟩,rfl,λ_=>by simp[-List.set_set,k,e,s]⟩
def lY(N:LS)(road:P)(n:Nat):List P:=if decide (N[n]? = some (rA road))=true then (oth N (rB road) n).map λo=>pr road n o else []
theorem xy(N:LS)(road:P)(o:Nat)(h:N.length≤16):(lY N road o).length≤16:=by
 unfold lY;split
 .have x:=qR o road (bS N (rB road));have a:=dR N (rB road);unfold oth;lia
 .simp
theorem Kl(G E:Str->GF)(S:aD)(l:D)(N:LS)(y:N.length≤16)(v:fE road):∀(r:List Nat)(x:List P)(d w k:Option D),(∀i ∈ r,i < N.length)->x.length+16 * r.length≤50000 ->
  ∃q s n,aR (aP [ag 4,ag 5]) (eL G E) (r.map λ(i:Nat)=>P.tup [.int (i:Int),((N.map P.str)[i]?).getD .non]) [some l,ql (N.map .str),qr S.length,qp road,d,w,k] (S++[.lst (x.map .p)]) =
   some (.nx,[some l,ql (N.map .str),qr S.length,qp road,q,s,n],S++[.lst ((x++r.flatMap (lY N road)).map .p)])
 | [],x,d,w,k,_,_=>⟨d,w,k,by simp[aR]⟩
 |i::r,x,d,w,k,F,R=>by
  simp only[bc]at R;have t:=xy N road i y;have K:=F i List.mem_cons_self;have z:N[i]? = some N[i]:=cK K;have H:((N.map P.str)[i]?).getD .non=.str N[i]:=by rw[List.getElem?_map,z];rfl
  rw[hE,<- List.append_assoc,List.map_cons,H];by_cases h:N[i]=rA road
  .have g:lY N road i=(oth N (rB road) i).map λo=>pr road i o:=by unfold lY;rw[z,h];simp
   rw[g]at t ⊢;obtain⟨q,s,n,e⟩:=Kl G E S l N y v r (x++(oth N (rB road) i).map λo=>pr road i o) (qi (i:Int)) (qs (N[i])) (ql (bn (oth N (rB road) i))) (λj A=>F j (aS _ A)) (by rw[cJ];lia);refine⟨q,s,n,?_⟩;refine(bu (y:=[some l,ql (N.map .str),qr S.length,qp road,qi (i:Int),qs (N[i]),k]) rfl ?_).trans e;have p:x.length+(oth N (rB road) i).length≤1000000:=by rw[a9]at t;lia
   have f:(oth N (rB road) i).length≤1000000:=by lia
   have m:(bn (oth N (rB road) i)).length=(oth N (rB road) i).length:=by simp[bn]
   have T:N.length < 1000000:=by lia
   have C:N.length≤1000000:=by lia
   have u:=Bs road i [some l,ql (N.map .str),qr S.length,qp road,qi (i:Int),qs (N[i]),ql (bn (oth N (rB road) i)),none] rfl rfl rfl (oth N (rB road) i) (S++[.lst (x.map .p)]);obtain⟨a,b,M,c,I,J,O,Q,B,_,_,rfl⟩:=v;have L:=xw N a b (.str M) c I J l (.ref S.length) i (qs (N[i])) k (S++[.lst (x.map .p)]);simp only[rA,rB]at h p f m u ⊢;simp[eL,h,aU,b7,cy,T,C,bt,jK,c8,m,f,p];simp[h]at L u;simp[L,u,m,f,p]
  .have g:lY N road i=[]:=by unfold lY;rw[z];simp[h]
   rw[g,List.append_nil];obtain⟨q,s,n,e⟩:=Kl G E S l N y v r x (qi (i:Int)) (qs (N[i])) k (λj A=>F j (aS _ A)) (by lia);refine⟨q,s,n,?_⟩;refine(bu (y:=[some l,ql (N.map .str),qr S.length,qp road,qi (i:Int),qs (N[i]),k]) rfl ?_).trans e;obtain⟨a,b,M,c,I,J,O,Q,B,_,_,rfl⟩:=v;simp only[rA]at h;simp[eL,h]
end
section
variable{m:List P}
theorem jj(p:e->Bool)(f:e->List s):∀xs:List e,(xs.filter p).flatMap f=xs.flatMap λx=>if p x=true then f x else []
 | []=>rfl
 |x::r=>by
  by_cases h:p x=true
  .rw [nq h,hE,hE,jj p f r,if_pos h]
  .rw [np h,hE,jj p f r,if_neg h,fX]
theorem DZ(N:LS)(road:P):(List.range N.length).flatMap (lY N road)=uM N road:=by unfold uM;rw[show bS N (rA road)=(List.range N.length).filter (λi=>decide (N[i]? = some (rA road))) from rfl,jj];rfl
theorem lx(N:LS)(road:P)(h:N.length≤16):(uM N road).length≤256:=by
 have x:=dR N (rA road);have a:=dR N (rB road);have:=qX N road (bS N (rB road)) (by lia) (bS N (rA road))
 unfold uM;lia
theorem Li(g u:Str->GF)(S:aD)(p:D)(N:LS)(d:N.length≤16):∀(o:List P)(a:List P)(t q e n:Option D),(∀r ∈ o,fE r)->a.length+256 * o.length≤10000 ->
  ∃w x s k,aR (ag 3) (iX g u) o [some p,ql (N.map .str),qr S.length,t,q,e,n] (S++[.lst (a.map .p)]) =
   some (.nx,[some p,ql (N.map .str),qr S.length,w,x,s,k],S++[.lst ((a++a8 N o).map .p)])
 | [],a,t,q,e,n,_,_=>⟨t,q,e,n,by simp[aR,a8]⟩
 |road::o,a,t,q,e,n,l,H=>by simp only[bc]at H;obtain⟨x,s,k,v⟩:=Kl g u S p N d (l road List.mem_cons_self) (List.range N.length) a q e n (λi z=>by simpa using z) (by simp;lia);have F:=lx N road d;obtain⟨f,b,c,m,y⟩:=Li g u S p N d o (a++uM N road) (qp road) x s k (λr h=>l r (aS _ h)) (by rw[cJ];lia);refine⟨f,b,c,m,?_⟩;rw[show a8 N (road::o)=uM N road++a8 N o by simp[a8],<- List.append_assoc];refine(bu (y:=[some p,ql (N.map .str),qr S.length,qp road,q,e,n]) rfl ?_).trans y;rw[DZ]at v;have j:=wM (N.map P.str);rw[a9]at j;rw[<- j]at v;show b6 _ _ _ _ _=_;simp only[bC];rw[show rJ (vv 1) [some p,ql (N.map .str),qr S.length,qp road,q,e,n] (S++[.lst (a.map .p)])=some (bf 0 (N.map P.str),S++[.lst (a.map .p)]) by simp];exact v
theorem CF(k:3≤n)(h:Pln y s f)(S:aD):Ph n "pairs_of" [.p (.tup [.lst y,.lst s,.lst f])] S=some (.ref S.length,S++[.lst ((a8 (ao y) s).map .p)]):=by
 obtain⟨n,rfl⟩:=fF (n:=n) (by first|assumption|lia);have:=h.rl
 have x:=wG (n:=n+1) (by lia) h.hf h.f0.2 (.lst s) (.lst f);have a:=y4 h.hf (.lst s) (.lst f) S;obtain⟨q,b,c,m,e⟩:=Li (Ph (n+1)) (Ph n) S (.p (.tup [.lst y,.lst s,.lst f])) (ao y) (aM (lI h) (by decide)) s [] none none none none h.hr (by simp;lia);have l:(homes y).length≤1000000:=by rw[lH];have:=eT h;lia
 rw[rO];simp only[fX,gB]at e;simp[cL,kZ,x,aU,l,jK,a,e]
theorem Bu(x:3≤n)(h:Pln f s e):pureOf (Ph n "pairs_of") [.tup [.lst f,.lst s,.lst e]]=some (.lst (a8 (ao f) s)):=by unfold pureOf;rw[List.map_cons,gB,CF x h []];simp
noncomputable def n_:P->P
 | .tup [_,_,_,x]=>x
 |_=>.non
def gY:P->P
 | .tup [_,_,_,.lst a,.lst w,_]=>.tup [.int 0,.tup (a.map n_),.tup (List.replicate w.length (.int (-1)))]
 |_=>.non
theorem B5(n:∀c ∈ a,l_ c)(L:Lc)(j:Nat)(e:j < L.length)(S:aD):a_ (ag j) gQ (ab al (vv j) (vi 3)) a L S=some (a.map n_,S):=by
 rw[bx (p:=λ_=>true) (f:=n_) (Inv:=λh=>∃d,h=L.set j d) (λv k h s=>?_) ⟨L[j],(iy e).symm⟩]
 .rw [gZ]
 .obtain⟨d,rfl⟩:=s;obtain⟨x,lo,i,t,b,_,_,_,_,rfl⟩:=n v k;have g:((L.set j d).set j (qt [.str x,.int lo,.int i,.int t]))[j]? = some (qt [.str x,.int lo,.int i,.int t]):=by
   rw[dD (by simpa using e)]
  exact⟨_,rfl,⟨_,List.set_set ..⟩,rfl,λ_=>by simp[-List.set_set,g,n_]⟩
theorem Fh(a b c d e f:P):L2.atI [a,b,c,d,e,f] 3=some d:=aF (by decide) rfl
theorem Jo(a b c d e f:P):L2.atI [a,b,c,d,e,f] 4=some e:=aF (by decide) rfl
theorem wX(B A:Str->GF)(S:∀f ∈ s,ey m f)(o i:P):∀(n:List (Nat×P))(h:List P)(g d u:Option D),(∀x ∈ n,s[x.1]? = some x.2)->h.length+n.length≤1000 ->
  ∃q b v,aR (ag 2) (iR B A) (n.map λx=>P.int (x.1:Int)) [qt [.lst s,o,i],qr 0,g,d,u] [.lst (h.map .p)] =
   some (.nx,[qt [.lst s,o,i],qr 0,q,b,v],[.lst ((h++n.map λx=>gY x.2).map .p)])
 | [],h,g,d,u,_,_=>⟨g,d,u,by simp[aR]⟩
 |x::n,h,g,d,u,K,G=>by
  simp only[bc]at G;obtain⟨p,f⟩:=x;have F:s[p]? = some f:=K (p,f) List.mem_cons_self;obtain⟨H,c,r,a,w,t,k,rfl⟩:=S f (bH F);have E:=bo F;obtain⟨q,b,v,e⟩:=wX B A S o i n (h++[gY (.tup [.str H,.int (c:Int),.lst r,.lst a,.lst w,.lst t])]) (qi (p:Int)) (ql a) (ql w) (λy I=>K y (aS _ I)) (by simp;lia);refine⟨q,b,v,?_⟩;rw[List.map_cons,List.map_cons,show h++gY (.tup [.str H,.int (c:Int),.lst r,.lst a,.lst w,.lst t])::n.map (λx=>gY x.2)=h++[gY (.tup [.str H,.int (c:Int),.lst r,.lst a,.lst w,.lst t])]++n.map (λx=>gY x.2) by simp];refine(bu (y:=[qt [.lst s,o,i],qr 0,qi (p:Int),d,u]) rfl ?_).trans e;have C:=B5 k.hce.1 [qt [.lst s,o,i],qr 0,qi (p:Int),ql a,ql w,none] 5 (by simp) [.lst (h.map .p)];have j:a.length≤1000000:=by have:=k.cl;lia
  have z:w.length≤1000000/\w.length < 1000000:=by have:=k.wl;lia
  have l:h.length≤1000000:=by lia
  rw[<- cm];simp[iR,E,Fh,Jo,aU,j,jK,C,bD,b7,cy,z,c8,l,gY]
theorem AE(w:4≤n)(h:Pln f s y):pureOf (Ph n "begin") [.tup [.lst f,.lst s,.lst y]]=some (.tup [.tup ((aq f).map gY),.tup (List.replicate (a8 (ao f) s).length (.tup []))]):=by
 obtain⟨n,rfl⟩:=fF (n:=n) (by first|assumption|lia);have c:=wG (n:=n+1) (by lia) h.hf h.f0.2 (.lst s) (.lst y);have a:=Bu (n:=n+1) (by lia) h;have q:=vm 0 h.hf;have l:=h.f0.2;obtain⟨z,o,H,e⟩:=wX (Ph (n+1)) (Ph n) h.hf (.lst s) (.lst y) (hw 0 f) [] none none none (λx d=>by obtain⟨j,a,t⟩:=lG d;rw[a,eN];exact t) (by simp;lia);have v:(a8 (ao f) s).length≤2048:=by
  have N:(ao f).length≤16:=aM (lI h) (by decide);have b:∀m:List P,(a8 (ao f) m).length≤256 * m.length:=by
   intro m;induction m with
   |nil=>simp[a8]
   |cons r m g=>have:=lx (ao f) r N;rw[show a8 (ao f) (r::m)=uM (ao f) r++a8 (ao f) m by simp[a8],cJ,bc];lia
  have:=b s;have:=h.rl
  lia
 have p:(a8 (ao f) s).length≤1000000:=by lia
 have k:(a8 (ao f) s).length < 1000000:=by lia
 rw[xW,ah];simp only[fX,gB]at e;rw[show(hw 0 f).map (λx=>P.int (x.1:Int))=homes f from rfl,show(hw 0 f).map (λx=>gY x.2)=(aq f).map gY by simp[aq]]at e;have i:∀vs:List P,toP 9 (.ref 0) [.lst (vs.map .p)]=some (.lst vs,[.fz (.lst vs)]):=yD;generalize (aq f).map gY=u at e ⊢;simp[p',c,a,e,bD,b7,cy,p,k]
end
def jw(S:aD)(j:Nat)(xs:List P):Prop:=S[j]? = some (.lst (xs.map .p))\/S[j]? = some (.fz (.lst xs))
variable{xs:List P}{c:List P}
theorem zF(h:xs.map D.p=c.map D.p):xs=c:=(List.map_inj_right (f:=D.p) λ_ _ h=>D.p.inj h).mp h
variable{S:aD}{j:Nat}
theorem jw.lt(h:jw S j xs):j < S.length:=by rcases h with h|h<;>exact(List.getElem?_eq_some_iff.mp h).1
theorem jw.frz(h:jw S j xs):toP 9 (.ref j) S=some (.lst xs,S.set j (.fz (.lst xs))):=by
 rcases h with h|h
 .exact eG h
 .have:S.set j (.fz (.lst xs))=S:=by
   obtain⟨a,x⟩:=List.getElem?_eq_some_iff.mp h;rw[<- x,iy]
  rw[this];simp[toP,h]
variable{L:Lc}
theorem jw.ix(h:jw S j xs){i:Int}(r:s L S=some (.ref j,S))(x:k L S=some (.int i,S))(e:L2.atI xs i=some f):uP s k L S=some (.p f,S):=by
 rw[jn,r,au,x,au];rcases h with h|h
 .simp only[h];rw[wY,e];rfl
 .simp only[h];show(L2.atI xs i).map _=_;rw[e];rfl
theorem jw.len(h:jw S j xs):b7 (.ref j) S=some xs.length:=by rcases h with h|h<;>simp[b7,h,cy]
structure Fr(b:Nat)(S S':aD):Prop where
 len:S.length≤S'.length
 low:∀k o,k < b->S[k]? = some o->S'[k]? = some o\/∃xs,o=.lst (xs.map .p)/\S'[k]? = some (.fz (.lst xs))
 hi:∀k o,b≤k->S[k]? = some o->S'[k]? = some o
theorem Fr.refl(b:Nat)(S:aD):Fr b S S:=⟨Nat.le_refl _,λ_ _ _ h=>.inl h,λ_ _ _ h=>h⟩
variable{b:Nat}{x:aD}
theorem Fr.trans(h:Fr b S x)(g:Fr b x f):Fr b S f:=by
 refine⟨aM h.len g.len,λk o a e=>?_,λk o a e=>g.hi k o a (h.hi k o a e)⟩;rcases h.low k o a e with s|⟨xs,rfl,s⟩
 .exact g.low k o a s
 .rcases g.low k _ a s with s|⟨c,q,_⟩
  .exact .inr ⟨xs,rfl,s⟩
  .cases q
theorem Fr.app(b:Nat)(S T:aD):Fr b S (S++T):=by
 have y:∀k o,S[k]? = some o->(S++T)[k]? = some o:=λk o e=>by rw[List.getElem?_append_left (aY e)];exact e
 exact⟨by simp,λk o _ e=>.inl (y k o e),λk o _ e=>y k o e⟩
variable{k:Nat}
theorem Fr.set(h:Fr b S x)(s:b≤S.length)(n:S.length≤k)(o:SO):Fr b S (x.set k o):=by
 refine⟨by rw[eY];exact h.len,λj u a e=>?_,λj u a e=>?_⟩
 .rw [a6 (by lia)];exact h.low j u a e
 .have:=aY e;rw[a6 (by lia)];exact h.hi j u a e
theorem Fr.frz(a:j < b)(h:jw S j xs):Fr b S (S.set j (.fz (.lst xs))):=by
 refine⟨by simp,λk o x e=>?_,λk o x e=>?_⟩
 .by_cases q:j=k
  .subst q;rw[dD h.lt];rcases h with h|h<;>(rw[h]at e;cases e)
   .exact .inr ⟨xs,rfl,rfl⟩
   .exact .inl rfl
  .rw [a6 q];exact .inl e
 .rw [a6 (by lia)];exact e
theorem Fr.trunc(h:Fr b S x):Fr b S (trunc S.length x):=by
 unfold Ev.trunc;split
 .refine⟨by rw[iu];have:=h.len;lia,λk o a e=>?_,λk o a e=>?_⟩
  .rw [iz (aY e)];exact h.low k o a e
  .rw [iz (aY e)];exact h.hi k o a e
 .exact h
theorem jw.fr(h:Fr b S x)(g:jw S j xs):jw x j xs:=by
 by_cases a:j < b
 .rcases g with g|g
  .rcases h.low j _ a g with e|⟨c,q,e⟩
   .exact .inl e
   .have:xs=c:=zF (SO.lst.inj q);subst this;exact .inr e
  .rcases h.low j _ a g with e|⟨c,q,e⟩
   .exact .inr e
   .cases q
 .rcases g with g|g
  .exact .inl (h.hi j _ (by lia) g)
  .exact .inr (h.hi j _ (by lia) g)
def ku(S x:aD)(d:D)(c:List P):Prop:=d=.p (.lst c)\/∃k,S.length≤k/\d=.ref k/\jw x k c
variable{d:D}
theorem ku.toP(h:ku S x d c)(f:Fr b S x)(e:b≤S.length):∃a,toP 9 d x=some (.lst c,a)/\Fr b S a:=by
 rcases h with rfl|⟨k,s,rfl,h⟩
 .exact⟨x,by simp,f⟩
 .exact⟨_,h.frz,f.set e s _⟩
variable{g:GF}{q:oJ}{l:List D}
theorem oD(s:q L S=some (l,S))(k:g l S=some (d,x))(r:Fr b S x)(n:b≤S.length)(h:ku S x d c):∃a,cF g q L S=some (.lst c,a)/\Fr b S a:=by obtain⟨m,e,f⟩:=h.toP r n;exact⟨_,by rw[pC,s,au,k,au,e,au],f.trunc⟩
theorem Ay(a:q L S=some (l,S))(s:g l S=some (.p e,x))(f:Fr b S x):∃h,cF g q L S=some (e,h)/\Fr b S h:=
 ⟨_,by rw[pC,a,au,s,au];rfl,f.trunc⟩
structure BD where
 fams:List P
 roads:List P
 wishes:List P
 ks:List (List bB)
 vs:List D
def BD.N(B:BD):LS:=ao B.fams
def BD.PR(B:BD):List P:=a8 B.N B.roads
def fields:LS:=["families","homes","pairs","places","members"]
structure Bat(B:BD)(b i jh jp jl jm:Nat)(mk:List bB)(mv:List D)(S:aD):Prop where
 ins:S[i]? = some (.ins "Board" fields [.p (.lst B.fams),.ref jh,.ref jp,.ref jl,.ref jm])
 ho:jw S jh (homes B.fams)
 pr:jw S jp B.PR
 pl:S[jl]? = some (.dtt B.ks B.vs)
 me:S[jm]? = some (.dct mk mv)
 mm:∀s ∈ B.N,∃j,j < b/\bI (.inr s) mk mv=qr j/\jw S j (bn (bS B.N s))
 bi:i < b
 bh:jh < b
 bp:jp < b
 bl:jl < b
 bm:jm < b
 bs:b≤S.length
def Bd(B:BD)(b i:Nat)(S:aD):Prop:=∃p v r t w u,Bat B b i p v r t w u S
theorem Bat.fr{B:BD}{b i p v r t:Nat}{w:List bB}{u:List D}{S x:aD}(h:Bat B b i p v r t w u S)(f:Fr b S x):Bat B b i p v r t w u x where
 ins:=by rcases f.low i _ h.bi h.ins with e|⟨_,q,_⟩;exact e;cases q
 ho:=h.ho.fr f
 pr:=h.pr.fr f
 pl:=by rcases f.low r _ h.bl h.pl with e|⟨_,q,_⟩;exact e;cases q
 me:=by rcases f.low t _ h.bm h.me with e|⟨_,q,_⟩;exact e;cases q
 mm:=λs c=>by obtain⟨j,a,n,k⟩:=h.mm s c;exact⟨j,a,n,k.fr f⟩
 bi:=h.bi
 bh:=h.bh
 bp:=h.bp
 bl:=h.bl
 bm:=h.bm
 bs:=aM h.bs f.len
theorem Bd.fr{B:BD}{b i:Nat}{S x:aD}(h:Bd B b i S)(f:Fr b S x):Bd B b i x:=by obtain⟨p,v,r,t,w,u,h⟩:=h;exact⟨p,v,r,t,w,u,h.fr f⟩
theorem Bd.le{B:BD}{b i:Nat}{S:aD}(h:Bd B b i S):b≤S.length:=by obtain⟨p,v,r,t,w,u,h⟩:=h;exact h.bs
section
variable{B:BD}{b i p v r t:Nat}{w:List bB}{u:List D}{S:aD}{L:Lc}{o:EE}
theorem Bat.fld(h:Bat B b i p v r t w u S)(ho:o L S=some (.ref i,S))(a:aT Att "Board" f=true)(x:gK f fields [.p (.lst B.fams),.ref p,.ref v,.ref r,.ref t]=some d):dM (aT Att) o f L S=some (d,S):=by rw[Ca,ho,au];simp only[h.ins];rw[if_pos a,x];rfl
end
theorem jI:aT Att "Board" "families"=true/\aT Att "Board" "homes"=true/\aT Att "Board" "pairs"=true/\aT Att "Board" "places"=true/\aT Att "Board" "members"=true:=by decide +kernel
theorem BU{a b c d e:D}:gK "families" fields [a,b,c,d,e]=some a/\gK "homes" fields [a,b,c,d,e]=some b/\gK "pairs" fields [a,b,c,d,e]=some c/\gK "places" fields [a,b,c,d,e]=some d/\gK "members" fields [a,b,c,d,e]=some e:=by
 have h:¬("families":Str)="homes":=by decide +kernel
 have x:¬("families":Str)="pairs":=by decide +kernel
 have s:¬("families":Str)="places":=by decide +kernel
 have k:¬("families":Str)="members":=by decide +kernel
 have f:¬("homes":Str)="pairs":=by decide +kernel
 have m:¬("homes":Str)="places":=by decide +kernel
 have r:¬("homes":Str)="members":=by decide +kernel
 have t:¬("pairs":Str)="places":=by decide +kernel
 have p:¬("pairs":Str)="members":=by decide +kernel
 have n:¬("places":Str)="members":=by decide +kernel
 simp[fields,gK,h,x,s,k,f,m,r,t,p,n]
section
variable{B:BD}{b i p v r t:Nat}{w:List bB}{u:List D}{S:aD}(h:Bat B b i p v r t w u S){L:Lc}{o:EE}(ho:o L S=some (.ref i,S))
include h ho
theorem Bat.families:dM (aT Att) o "families" L S=some (.p (.lst B.fams),S):=h.fld ho jI.1 BU.1
theorem Bat.homes:dM (aT Att) o "homes" L S=some (.ref p,S):=h.fld ho jI.2.1 BU.2.1
theorem Bat.pairs:dM (aT Att) o "pairs" L S=some (.ref v,S):=h.fld ho jI.2.2.1 BU.2.2.1
theorem Bat.places:dM (aT Att) o "places" L S=some (.ref r,S):=h.fld ho jI.2.2.2.1 BU.2.2.2.1
theorem Bat.members:dM (aT Att) o "members" L S=some (.ref t,S):=h.fld ho jI.2.2.2.2 BU.2.2.2.2
theorem Bat.meth(m:M "Board" e=some g)(n:fields.contains e=false)(a:q L S=some (l,S)):dB M o e q L S=g (.ref i::l) S:=by rw[ij,ho,au];simp only[h.ins,m,n,a,au];rfl
end
@[simp] theorem IS:¬("name":Str)="number"/\¬("plus":Str)="number"/\¬("plus":Str)="name"/\¬("minus":Str)="number"/\¬("minus":Str)="name"/\¬("minus":Str)="plus"/\¬("times":Str)="number"/\¬("times":Str)="name"/\¬("times":Str)="plus"/\¬("times":Str)="minus" /\
  ¬("not":Str)="true"/\¬("and":Str)="true"/\¬("and":Str)="not"/\¬("or":Str)="true"/\¬("or":Str)="not"/\¬("or":Str)="and"/\¬("is":Str)="true"/\¬("is":Str)="not"/\¬("is":Str)="and"/\¬("is":Str)="or" /\
  ¬("double":Str)="lose"/\¬("all":Str)="who"/\¬("any":Str)="who"/\¬("any":Str)="all"/\¬("weak":Str)="strong"/\¬("strong":Str)="weak"/\¬("heap":Str)="row"/\¬("row":Str)="heap":=by decide +kernel
theorem gA(h:xs.length+c.length≤1000000):aw (.tup xs) (.tup c)=some (.tup (xs++c)):=by
 cases xs with
 |nil=>rfl
 |cons x r=>show(if (!(x::r).isEmpty && gu ((x::r).length+c.length))=true then some (P.tup ((x::r)++c)) else none)=_;rw[if_pos (by rw[Bool.and_eq_true,kW];exact⟨rfl,h⟩)]
theorem sG(k:Nat):cut xs none (some (k:Int))=xs.take k:=by
 unfold cut;rw[HT.tm,HT.wj,mN,Nat.sub_zero];by_cases h:k≤xs.length
 .rw [Nat.min_eq_left h]
 .rw [Nat.min_eq_right (by lia),mV,List.take_of_length_le (by lia)]
theorem uv(k:Nat):cut xs (some (k:Int)) none=xs.drop k:=by
 unfold cut;rw[HT.tm,HT.wj];by_cases h:k≤xs.length
 .rw [Nat.min_eq_left h,List.take_of_length_le (by simp)]
 .rw [Nat.min_eq_right (by lia),qw,List.drop_of_length_le (by lia)];simp
theorem pV(k:Nat):cut xs (some ((k:Int)+1)) none=xs.drop (k+1):=uv (k+1)
theorem Cf(k:Nat):cut xs none (some ((k:Int)+1))=xs.take (k+1):=sG (k+1)
variable{n:Nat}
theorem nH(a:2≤n)(x:k < xs.length)(l:xs.length≤900000)(v:P):pureOf (Ph n "replaced") [.tup xs,.int (k:Int),v]=some (.tup (xs.set k v)):=by obtain⟨n,rfl⟩:=fF (n:=n) (by first|assumption|lia);have e:=gA (xs:=xs.take k) (c:=[v]) (by simp;lia);have h:=gA (xs:=xs.take k++[v]) (c:=xs.drop (k+1)) (by simp;lia);rw[gn,ah];simp[fm,sG,pV,e,-List.append_assoc];rw[h];simp[List.set_eq_take_append_cons_drop,x]
theorem Cv(x:2≤n)(h:xs.length≤900000):pureOf (Ph n "without") [.tup xs,.int (k:Int)]=some (.tup (xs.eraseIdx k)):=by obtain⟨n,rfl⟩:=fF (n:=n) (by first|assumption|lia);have e:=gA (xs:=xs.take k) (c:=xs.drop (k+1)) (by simp;lia);rw[g6,ah];simp[fU,sG,pV,e,List.eraseIdx_eq_take_drop_succ]
def l8(l:P):Prop:=∃m i,PyData.strOk m=true/\i.natAbs≤999/\l=.tup [.str m,.int i]
theorem l8.ok(h:l8 e):cb 1 e=true:=by obtain⟨m,i,x,_,rfl⟩:=h;simp[x]
def jx(s:List P):Prop:=s.length≤3/\∀l ∈ s,l8 l
noncomputable def E1(w:Str)(xs:List P)(k:Nat):List P:=if w="lose" then xs.eraseIdx k else xs.take (k+1)++xs.drop k
theorem C3{n:Nat}(b:3≤n){w:Str}(hw:w="lose"\/w="double"){xs:List P}{k:Nat}(x:jx xs)(a:w="double"->xs.length≤2)(f:k < xs.length):jx (E1 w xs k)/\pureOf (Ph n "flawed") [.str w,.tup xs,.int (k:Int)]=some (.tup (E1 w xs k)):=by
 obtain⟨n,rfl⟩:=fF (n:=n) (by first|assumption|lia);have:=x.1
 unfold E1;rcases hw with rfl|rfl
 .refine⟨⟨aM (List.length_eraseIdx_le ..) this,λl h=>x.2 l (List.mem_of_mem_eraseIdx h)⟩,?_⟩;have e:=Cv (n:=n+1) (by lia) (xs:=xs) (k:=k) (by lia);rw[oh,ah];simp[ko,e]
 .have s:=a rfl;rw[if_neg (by decide +kernel)];refine⟨⟨by simp;lia,λl h=>?_⟩,?_⟩
  .rcases du.mp h with h|h
   .exact x.2 l (qh h)
   .exact x.2 l (qH h)
  .have e:=gA (xs:=xs.take (k+1)) (c:=xs.drop k) (by simp;lia);rw[oh,ah];simp[ko,Cf,uv,e]
noncomputable def vn(w:Str)(r:P)(xs:List P):Bool:=match r with
 | .tup [_,_,_,.int c,.bl d,.bl h]=>if w="lose" then d else h && decide ((xs.length:Int) < c)
 |_=>false
theorem CV{n:Nat}(g:2≤n){w:Str}(hw:w="lose"\/w="double"){r:P}(q:fE r)(xs:List P):(w="double"->vn w r xs=true->xs.length≤2)/\pureOf (Ph n "has_flaw") [r,.str w,.tup xs]=some (.bl (vn w r xs)):=by
 obtain⟨n,rfl⟩:=fF (n:=n) (by first|assumption|lia);obtain⟨a,b,k,c,x,d,v,u,p,m,t,rfl⟩:=q;have e:L2.atI [P.str a,.str b,.str k,.int c,.bl x,.bl d] 3=some (.int c):=aF (by decide) rfl;have s:L2.atI [P.str a,.str b,.str k,.int c,.bl x,.bl d] 4=some (.bl x):=aF (by decide) rfl;have f:L2.atI [P.str a,.str b,.str k,.int c,.bl x,.bl d] 5=some (.bl d):=aF (by decide) rfl;unfold vn;rcases hw with rfl|rfl
 .refine⟨λh=>?_,?_⟩
  .have:¬("lose":Str)="double":=by decide +kernel
   exact absurd h this
  .rw [kS,ah];simp[iQ,s]
 .dsimp only;rw[if_neg (by decide +kernel)];refine⟨λ_ h=>?_,?_⟩
  .have:=(Bool.and_eq_true _ _ ▸ h).2;have:=of_decide_eq_true this
   lia
  .rw [kS,ah];cases d<;>simp[iQ,e,f,b7,cy]
theorem nX(h:∀y ∈ xs,cb 19 y=true)(x:s ∈ xs):∃i:Nat,i < xs.length/\i0 xs s=some i:=by
 unfold i0;have a:(xs.all (cb 19) && cb 19 s)=true:=by rw[Bool.and_eq_true];exact⟨bj.mpr h,h s x⟩
 rw[if_pos a];have m:pd s ∈ i5 xs:=by
  clear a h;induction xs with
  |nil=>cases x
  |cons y r n=>
   rcases bq.mp x with rfl|x
   .exact List.mem_cons_self
   .exact aS _ (n x)
 have e:PyData.eqv (pd s) (pd s)=true:=qj _ (eI 20 s (ei (h s x) (by lia))).1;cases q:(i5 xs).findIdx? λz=>PyData.eqv z (pd s) with
 |none=>have:=List.findIdx?_eq_none_iff.mp q (pd s) m;rw[e]at this;cases this
 |some i=>
  refine⟨i,?_,rfl⟩;have:=(vT.mp q).1
  rwa [q0]at this
def HG(n:Nat)(y:P):Prop:=∃i:Nat,i < n/\y=.int (i:Int)
theorem pQ(n:Nat):intsFrom 0 n=bn (List.range n):=by unfold Ev.intsFrom bn;simp only[c6]
def qN(k:Str)(xs:List P):List Nat:=(List.range xs.length).filter λi=>decide (k="row") ||decide (i0 xs (xs[i]?.getD .non)=some i)
theorem Cy(S:2≤n)(k:Str)(r:jx xs):pureOf (Ph n "unlike_spots") [.str k,.tup xs]=some (.lst (bn (qN k xs))):=by
 obtain⟨n,rfl⟩:=fF (n:=n) (by first|assumption|lia);have o:=r.1;have m:xs.length < 1000000:=by lia
 have b:xs.length≤1000000:=by lia
 by_cases h:k="row"
 .have e:qN k xs=List.range xs.length:=by unfold qN;rw[qg.mpr λ_ _=>by simp[h]]
  rw[e,<- pQ,cV,ah];simp[ce,h,b7,cy,m]
 .have e:a_ (ag 3) (bV (az dC (eV (oK (vv 1) (ab al (vv 1) (vv 3)))) (aa 3))) (vv 3) (intsFrom 0 xs.length) [qs k,qt xs,ql (intsFrom 0 xs.length),none] []=some (bn (qN k xs),[]):=by
   rw[bx (p:=λv=>match v with | .int z=>decide (i0 xs (xs[z.toNat]?.getD .non)=some z.toNat)|_=>false) (f:=id) (Inv:=λL=>∃d,L=[qs k,qt xs,ql (intsFrom 0 xs.length),d]) (λv w L t=>?_) ⟨none,rfl⟩,kA]
   .rw [pQ];unfold bn qN;rw[mP];congr 3;refine List.filter_congr λi _=>?_;simp[h]
   obtain⟨d,rfl⟩:=t;obtain⟨i,rfl,s⟩:=dI w;simp only[c6];have g:xs[i]? = some xs[i]:=cK s;have c:=bo g;obtain⟨j,H,a⟩:=nX (xs:=xs) (s:=xs[i]) (λy u=>ei (r.2 y u).ok (by lia)) (gE _);refine⟨[qs k,qt xs,ql (intsFrom 0 xs.length),qi (i:Int)],rfl,⟨_,rfl⟩,?_,λ_=>by simp⟩;by_cases q:j=i
   .rw [q]at a;simp[c,a,g]
   .have l:¬(j:Int)=(i:Int):=by lia
    simp[c,a,g,q,l]
  rw[cV,ah];simp[ce,h,b7,cy,m,b,aU,bt,jK,e]
def k9(N:List P)(ks:List bB)(vs:List P):Prop:=∀x:Str,P.str x ∈ N->∃i:Int,i.natAbs≤999/\bI (.inr x) ks vs=some (.int i)
section
variable{N:List P}{ks:List bB}{vs:List P}
theorem pq(h:2≤n)(k:Int):pureOf (Ph n "value_of") [lB k,.dct ks vs]=some (.int k):=by obtain⟨n,rfl⟩:=fF (n:=n) (by first|assumption|lia);rw[cA,ah];simp[bK]
theorem pA(x:2≤n){i:Int}(h:bI (.inr e) ks vs=some (.int i)):pureOf (Ph n "value_of") [ms (.str e),.dct ks vs]=some (.int i):=by obtain⟨n,rfl⟩:=fF (n:=n) (by first|assumption|lia);rw[cA,ah];simp[bK,h]
theorem Dv{n:Nat}(e:3≤n){a b:P}{i j:Int}(h:pureOf (Ph (n-1) "value_of") [a,.dct ks vs]=some (.int i))(x:pureOf (Ph (n-1) "value_of") [b,.dct ks vs]=some (.int j)):pureOf (Ph n "value_of") [.tup [.str "plus",a,b],.dct ks vs]=some (.int (i+j)):=by obtain⟨n,rfl⟩:=fF (n:=n) (by first|assumption|lia);rw[show n+2-1=n+1 by lia]at h x;rw[cA,ah];simp[bK,h,x]
theorem vZ{n:Nat}(e:3≤n){a b:P}{i j:Int}(h:pureOf (Ph (n-1) "value_of") [a,.dct ks vs]=some (.int i))(x:pureOf (Ph (n-1) "value_of") [b,.dct ks vs]=some (.int j)):pureOf (Ph n "value_of") [.tup [.str "minus",a,b],.dct ks vs]=some (.int (i-j)):=by obtain⟨n,rfl⟩:=fF (n:=n) (by first|assumption|lia);rw[show n+2-1=n+1 by lia]at h x;rw[cA,ah];simp[bK,h,x]
theorem AZ{n:Nat}(e:3≤n){a b:P}{i j:Int}(m:fx i j=true)(h:pureOf (Ph (n-1) "value_of") [a,.dct ks vs]=some (.int i))(x:pureOf (Ph (n-1) "value_of") [b,.dct ks vs]=some (.int j)):pureOf (Ph n "value_of") [.tup [.str "times",a,b],.dct ks vs]=some (.int (i * j)):=by obtain⟨n,rfl⟩:=fF (n:=n) (by first|assumption|lia);rw[show n+2-1=n+1 by lia]at h x;rw[cA,ah];simp[bK,h,x,m]
theorem nv(s:∀x ∈ N,jG x)(f:k9 N ks vs){t:P}(h:nT N t){n:Nat}(p:4≤n):∃r:Int,pureOf (Ph n "value_of") [t,.dct ks vs]=some (.int r):=by
 rcases h with ⟨k,rfl⟩|⟨y,a,h⟩
 .exact⟨k,pq (by lia) k⟩
 obtain⟨x,_,rfl⟩:=s y a;obtain⟨i,m,e⟩:=f x a;rcases h with rfl|⟨k,rfl⟩|⟨k,j,b,c,rfl⟩|rfl
 .exact⟨i,pA (by lia) e⟩
 .exact⟨_,Dv (by lia) (pA (by lia) e) (pq (by lia) k)⟩
 .exact⟨_,vZ (by lia) (AZ (by lia) (bz (i:=i) (j:=k) (by lia) (by lia)) (pA (by lia) e) (pq (by lia) k)) (pq (by lia) j)⟩
 .exact⟨_,vZ (by lia) (pq (by lia) 1) (pA (by lia) e)⟩
theorem Fb(k:2≤n)(w:Str)(i j:Int):∃b,pureOf (Ph n "compared") [.str w,.int i,.int j]=some (.bl b):=by
 obtain⟨n,rfl⟩:=fF (n:=n) (by first|assumption|lia);rw[gp,ah];by_cases h:w="="
 .simp [bM,h]
 by_cases x:w="!="
 .refine⟨!decide (i=j),?_⟩;simp[bM,h,eq_true x]
 by_cases a:w="<"
 .simp [bM,h,x,eq_true a]
 by_cases e:w="<="
 .simp [bM,h,x,a,eq_true e]
 by_cases s:w=">"
 .simp [bM,h,x,a,e,eq_true s]
 simp[bM,h,x,a,e,s]
theorem z_(h:2≤n):pureOf (Ph n "holds") [.tup [.str "true"],.dct ks vs]=some (.bl true):=by obtain⟨n,rfl⟩:=fF (n:=n) (by first|assumption|lia);rw[eW,ah];simp[dq]
theorem HN{n:Nat}(s:6≤n)(w:Str){a b:P}{i j:Int}(h:pureOf (Ph (n-1) "value_of") [a,.dct ks vs]=some (.int i))(x:pureOf (Ph (n-1) "value_of") [b,.dct ks vs]=some (.int j)):∃r,pureOf (Ph n "holds") [.tup [.str "is",.str w,a,b],.dct ks vs]=some (.bl r):=by obtain⟨n,rfl⟩:=fF (n:=n) (by first|assumption|lia);rw[show n+2-1=n+1 by lia]at h x;obtain⟨r,e⟩:=Fb (n:=n+1) (by lia) w i j;refine⟨r,?_⟩;rw[eW,ah];simp[dq,h,x,e]
theorem HM(x:3≤n)(h:pureOf (Ph (n-1) "holds") [e,.dct ks vs]=some (.bl s)):pureOf (Ph n "holds") [.tup [.str "not",e],.dct ks vs]=some (.bl !s):=by obtain⟨n,rfl⟩:=fF (n:=n) (by first|assumption|lia);rw[show n+2-1=n+1 by lia]at h;rw[eW,ah];simp[dq,h]
theorem HP{n:Nat}(e:3≤n){a b:P}{r s:Bool}(h:pureOf (Ph (n-1) "holds") [a,.dct ks vs]=some (.bl r))(x:pureOf (Ph (n-1) "holds") [b,.dct ks vs]=some (.bl s)):pureOf (Ph n "holds") [.tup [.str "and",a,b],.dct ks vs]=some (.bl (r && s)):=by obtain⟨n,rfl⟩:=fF (n:=n) (by first|assumption|lia);rw[show n+2-1=n+1 by lia]at h x;rw[eW,ah];cases r<;>simp[dq,h,x]
theorem KI{n:Nat}(e:3≤n){a b:P}{r s:Bool}(h:pureOf (Ph (n-1) "holds") [a,.dct ks vs]=some (.bl r))(x:pureOf (Ph (n-1) "holds") [b,.dct ks vs]=some (.bl s)):pureOf (Ph n "holds") [.tup [.str "or",a,b],.dct ks vs]=some (.bl (r ||s)):=by obtain⟨n,rfl⟩:=fF (n:=n) (by first|assumption|lia);rw[show n+2-1=n+1 by lia]at h x;rw[eW,ah];cases r<;>simp[dq,h,x]
theorem z0(k:∀x ∈ N,jG x)(f:k9 N ks vs){t:P}(h:vl N t){n:Nat}(b:9≤n):∃r,pureOf (Ph n "holds") [t,.dct ks vs]=some (.bl r):=by
 have l:∀{t:P},kN N t->∀{n:Nat},6≤n->∃r,pureOf (Ph n "holds") [t,.dct ks vs]=some (.bl r):=λ{t} h {n} b=>by obtain⟨w,y,s,c,d,_,rfl⟩:=h;obtain⟨x,_,rfl⟩:=k y c;obtain⟨i,_,a⟩:=f x c;obtain⟨j,v⟩:=nv k f d (n:=n-1) (by lia);exact HN b w (pA (by lia) a) v
 rcases h with rfl|h|⟨p,h,rfl⟩|⟨p,z,h,m,rfl⟩
 .exact⟨_,z_ (by lia)⟩
 .exact l h (by lia)
 .obtain⟨r,e⟩:=l h (n:=n-1) (by lia);exact⟨_,HM (by lia) e⟩
 .obtain⟨r,e⟩:=l h (n:=n-1) (by lia);obtain⟨x,_,rfl⟩:=k z m;obtain⟨i,_,a⟩:=f x m;obtain⟨s,q⟩:=HN (n:=n-1-1) (ks:=ks) (vs:=vs) (by lia) "=" (pq (by lia) 1) (pA (by lia) a);exact⟨_,KI (by lia) e (HP (by lia) (z_ (by lia)) q)⟩
end
def cd(a:List P):List bB:=a.map λc=>.inr (aC c)
def CellsOk(a s:List P):Prop:=s.length=a.length/\∀c ∈ s,∃i:Int,i.natAbs≤999/\c=.int i
variable{a:List P}
theorem jd(h:w4 a):(cd a).Nodup:=by
 unfold cd;refine uU.mpr λi j e s k q=>?_
 rw[a9]at e s;rw[List.getElem_map,List.getElem_map]at q;have x:=h.2 i _ (cK e);have n:=h.2 j _ (cK s);rw[i6 q,n]at x;simp at x;lia
theorem vf(a:List P):cn (oS a)=some (cd a):=by
 unfold oS cd;induction a with
 |nil=>rfl
 |cons c r i=>simp[cn,b8,i]
theorem rj:∀{a k:List P},CellsOk a k->k9 (oS a) (cd a) k
 | [],_,_=>λx h=>by cases h
 |c::r,[],h=>by have:=h.1;simp at this
 |c::r,d::s,h=>λx p=>by
  obtain⟨i,m,rfl⟩:=h.2 d List.mem_cons_self;show ∃i:Int,_/\(if (Sum.inr (aC c):bB)=.inr x then some _ else bI (.inr x) (cd r) s)=_;by_cases e:aC c=x
  .exact⟨i,m,by rw[if_pos (by rw[e])]⟩
  .have n:P.str x ∈ oS r:=by
    rcases bq.mp p with q|q
    .exact absurd (P.str.inj q).symm e
    .exact q
   obtain⟨j,t,f⟩:=rj (a:=r) (k:=s) ⟨by have:=h.1;simpa using this,λc b=>h.2 c (aS _ b)⟩ x n;exact⟨j,t,by rw[if_neg λq=>e (i6 q)];exact f⟩
theorem vW(v:2≤n)(h:Fam m H f s a y e)(c:CellsOk a z)(S:aD) :
  Ph n "values_of" [.p (.tup [.str H,.int (f:Int),.lst s,.lst a,.lst y,.lst e]),.p (.tup z)] S=some (.ref S.length,S++[.dct (cd a) (z.map .p)]):=by
 obtain⟨n,rfl⟩:=fF (n:=n) (by first|assumption|lia);have r:=h.cl;have q:a.length≤1000000:=by lia
 have x:(oS a).length≤1000000:=by simp[oS];lia
 have b:=pY h.hce.1 [qt [.str H,.int (f:Int),.lst s,.lst a,.lst y,.lst e],qt z,none] 2 (by simp) S;have p:=jd h.hce;have k:(cd a).length=z.length:=by rw[c.1];simp[cd]
 have l:(cd a).length≤z.length:=Nat.le_of_eq k;have t:z.take (cd a).length=z:=by rw[k,mV]
 rw[fO];simp[cL,eC,Fh,aU,q,jK,b,vf,p,x,l,t,List.map_take];first|done|(rw[<- List.map_take,t])
theorem xb(k:2≤n)(x:Fam m H y s a z e)(h:CellsOk a f) :
  pureOf (Ph n "values_of") [.tup [.str H,.int (y:Int),.lst s,.lst a,.lst z,.lst e],.tup f]=some (.dct (cd a) f):=by
 unfold pureOf;rw[List.map_cons,List.map_cons,gB,vW k x h []];have:ri (toP 8) (f.map .p) [SO.dct (cd a) (f.map .p)]=some (f,[SO.dct (cd a) (f.map .p)]):=kJ ..;simp[toP,this]
end My
namespace My
open PySem L2 Ev
variable{L:Lc}{S:aD}
theorem aj(h:a L S=some (.nx,e,b)):af a g L S=g e b:=by rw[mW,h]
theorem u6(h:a L S=some (.rt d,e,b)):af a g L S=some (.rt d,e,b):=by rw[mW,h]
noncomputable def Gw(a b:Bool):Nat->Nat->Option Bool
 |0,0=>some false
 |0,1=>some a
 |1,0=>some b
 |1,1=>some false
 |_,_=>none
noncomputable def Gu(a b c d e f:Bool):Nat->Nat->Option Bool
 |0,0=>some false
 |0,1=>some a
 |0,2=>some b
 |1,0=>some c
 |1,1=>some false
 |1,2=>some d
 |2,0=>some e
 |2,1=>some f
 |2,2=>some false
 |_,_=>none
noncomputable def t3(n:Nat)(o:Option (Array Nat)):Bool:=match o with
 |some p=>decide (p.size=n) && p.all λi=>decide (i < n)
 |none=>false
theorem GP:∀a b,t3 2 (B8 (Gw a b) (PySem.W.kas_sort 2))=true:=by decide +kernel
theorem GO:∀a b c d e f,t3 3 (B8 (Gu a b c d e f) (PySem.W.kas_sort 3))=true:=by decide +kernel
variable{x:P}
theorem gW(n:l8 x)(k:l8 y):∃b,Kx x y=some b:=by
 obtain⟨m,i,_,_,rfl⟩:=n;obtain⟨s,e,_,_,rfl⟩:=k;show ∃b,ve [.str m,.int i] [.str s,.int e]=some b;unfold ve;by_cases h:m=s
 .rw [if_pos h];unfold ve;by_cases a:(i == e)=true
  .rw [if_pos a];exact⟨_,rfl⟩
  .rw [if_neg a];exact⟨_,rfl⟩
 .rw [if_neg h];exact⟨_,rfl⟩
theorem kK(h:l8 x):Kx x x=some false:=by obtain⟨m,i,_,_,rfl⟩:=h;show ve [.str m,.int i] [.str m,.int i]=some false;unfold ve;rw[if_pos rfl];unfold ve;rw[if_pos (by simp)];rfl
variable{n:Nat}
theorem xS(h:t3 n o=true):∃p,o=some p/\p.size=n/\∀i ∈ p.toList,i < n:=by
 cases o with
 |none=>cases h
 |some p=>
  unfold t3 at h;rw[Bool.and_eq_true]at h;refine⟨p,rfl,of_decide_eq_true h.1,λi x=>?_⟩;have:=Array.all_eq_true'.mp h.2 i (by simpa using x)
  exact of_decide_eq_true this
theorem pE(h:jx r):∃t,jx t/\jo r=some (.lst t):=by
 have E:sortable r=true:=by
  unfold sortable;have:r.all nS=true:=bj.mpr λx k=>by obtain⟨m,i,_,_,rfl⟩:=h.2 x k;rfl
  rw[this,Bool.or_true]
 have o:∃t,jx t/\lX r=some t:=by
  unfold lX;by_cases q:r.length < 2
  .exact⟨r,h,by rw[if_pos q]⟩
  .rw [if_neg q,if_pos (by have:=h.1;lia)];have s:∀n,r.length=n->n≤3->t3 n (B8 (ja r) (PySem.W.kas_sort n))=true->∃t,jx t/\((B8 (ja r) (PySem.W.kas_sort r.length)).bind λp=>if p.size < 64 then some (p.toList.map λi=>r.getD i .non) else none)=some t:=λn C D P=>by
    obtain⟨p,e,G,q⟩:=xS P;refine⟨p.toList.map λi=>r.getD i .non,⟨by simp;lia,λl B=>?_⟩,by rw[C,e];simp[show p.size < 64 by lia]⟩;obtain⟨i,A,rfl⟩:=aX.mp B;have:=q i A
    rw[iA,cK (by lia)];exact h.2 _ (gE _)
   match r,h,q,s with
   | [x,y],h,_,s=>
    refine s 2 rfl (by lia) ?_;have k:=h.2 x (by simp);have v:=h.2 y (by simp);obtain⟨a,u⟩:=gW k v;obtain⟨b,g⟩:=gW v k;have:ja [x,y]=Gw a b:=by
     funext i j;match i,j with
     |0,0=>exact kK k
     |0,1=>exact u
     |1,0=>exact g
     |1,1=>exact kK v
     |0,j+2=>rfl
     |1,j+2=>rfl
     |i+2,0=>rfl
     |i+2,1=>rfl
     |i+2,j+2=>rfl
    rw[this];exact GP a b
   | [x,y,z],h,_,s=>
    refine s 3 rfl (by lia) ?_;have k:=h.2 x (by simp);have v:=h.2 y (by simp);have w:=h.2 z (by simp);obtain⟨a,u⟩:=gW k v;obtain⟨b,g⟩:=gW k w;obtain⟨c,H⟩:=gW v k;obtain⟨d,S⟩:=gW v w;obtain⟨e,F⟩:=gW w k;obtain⟨f,K⟩:=gW w v;have:ja [x,y,z]=Gu a b c d e f:=by
     funext i j;match i,j with
     |0,0=>exact kK k
     |0,1=>exact u
     |0,2=>exact g
     |1,0=>exact H
     |1,1=>exact kK v
     |1,2=>exact S
     |2,0=>exact F
     |2,1=>exact K
     |2,2=>exact kK w
     |0,j+3=>rfl
     |1,j+3=>rfl
     |2,j+3=>rfl
     |i+3,0=>rfl
     |i+3,1=>rfl
     |i+3,2=>rfl
     |i+3,j+3=>rfl
    rw[this];exact GO a b c d e f
   | [],_,q,_=>simp at q
   | [_],_,q,_=>simp at q
   |_::_::_::_::_,h,_,_=>have:=h.1;simp at this
 obtain⟨t,w,e⟩:=o;exact⟨t,w,by unfold jo;rw[if_pos E,e];rfl⟩
theorem lQ:i ∈ bS N a↔N[i]? = some a:=by
 unfold bS;rw[fy];constructor
 .exact λh=>of_decide_eq_true h.2
 .exact λh=>⟨dF.mpr (aY h),ir h⟩
variable{B:BD}
theorem sQ(h:x ∈ B.PR):∃r ∈ B.roads,∃a b:Nat,x=pr r a b:=by unfold BD.PR a8 at h;obtain⟨r,e,h⟩:=cw.mp h;unfold uM at h;obtain⟨a,_,h⟩:=cw.mp h;obtain⟨b,_,rfl⟩:=aX.mp h;exact⟨r,e,a,b,rfl⟩
theorem Ix{B:BD}{r:P}{a b:Nat}(s:r ∈ B.roads)(x:B.N[a]? = some (rA r))(e:B.N[b]? = some (rB r))(h:a≠b):pr r a b ∈ B.PR:=by unfold BD.PR a8;refine cw.mpr ⟨r,s,?_⟩;unfold uM;refine cw.mpr ⟨a,lQ.mpr x,aX.mpr ⟨b,?_,rfl⟩⟩;rw[fy];exact⟨lQ.mpr e,by simpa using h⟩
structure Places(B:BD):Prop where
 get:∀(r:P)(a b:Nat),pr r a b ∈ B.PR->∃d,bR [.inl (a:Int),.inl (b:Int)] B.ks B.vs=some d
 ok:∀(x y:Int)(d:D),bR [.inl x,.inl y] B.ks B.vs=some d->∃(k:Nat)(r:P)(a b:Nat),r ∈ B.roads/\d=.p (.int (k:Int))/\B.PR[k]? = some (pr r a b)
def bb(B:BD)(rds:List P):Prop:=rds.length=B.PR.length/\∀r ∈ rds,∃ls,jx ls/\r=.tup ls
theorem bb.at{B:BD}{u:List P}(h:bb B u){k:Nat}{x:P}(n:B.PR[k]? = some x):k < u.length/\∃l,jx l/\u[k]? = some (.tup l):=by
 have a:k < u.length:=by rw[h.1];exact aY n
 obtain⟨l,e,s⟩:=h.2 u[k] (gE _);exact⟨a,l,e,by rw[cK a,s]⟩
variable{u:List P}
theorem bb.set(h:bb B u)(k:Nat)(a:jx l):bb B (u.set k (.tup l)):=by
 refine⟨by rw[eY];exact h.1,λr x=>?_⟩;rcases List.mem_or_eq_of_mem_set x with x|rfl
 .exact h.2 r x
 .exact⟨l,a,rfl⟩
theorem oG(h:Pln B.fams B.roads B.wishes):B.PR.length≤2048:=by
 have N:B.N.length≤16:=aM (lI h) (by decide);have k:∀s:List P,(a8 B.N s).length≤256 * s.length:=by
  intro s;induction s with
  |nil=>simp[a8]
  |cons r s i=>have:=lx B.N r N;rw[show a8 B.N (r::s)=uM B.N r++a8 B.N s by simp[a8],cJ,bc];lia
 have:=k B.roads;have:=h.rl
 unfold BD.PR;lia
theorem IW(h:Str->GF):mT Tb h "Board" "family_of"=some (h "Board.family_of"):=by kernel_rfl
theorem Lj(h:Str->GF):mT Tb h "Board" "hands_beside"=some (h "Board.hands_beside"):=by kernel_rfl
theorem I0:fields.contains "family_of"=false:=by decide +kernel
theorem Lw:fields.contains "hands_beside"=false:=by decide +kernel
theorem pR{a:List P}{h:Nat}{f:P}(s:(aq a)[h]? = some f):∃p:Nat,(homes a)[h]? = some (.int (p:Int))/\a[p]? = some f:=by
 unfold aq at s;unfold homes;rw[List.getElem?_map]at s ⊢;cases e:(hw 0 a)[h]? with
 |none=>rw[e]at s;cases s
 |some x=>rw[e]at s;cases s;obtain⟨j,n,k⟩:=lG (bH e);exact⟨x.1,rfl,by rw[n,eN];exact k⟩
theorem vw{n:Nat}(r:2≤n){B:BD}{b i:Nat}{S:aD}(h:Bd B b i S){k:Nat}{f:P}(m:(aq B.fams)[k]? = some f):Ph n "Board.family_of" [.ref i,.p (.int (k:Int))] S=some (.p f,S):=by obtain⟨n,rfl⟩:=fF (n:=n) (by first|assumption|lia);obtain⟨j,q,l,t,mk,v,h⟩:=h;obtain⟨p,e,a⟩:=pR m;have s:uP (dM (aT Att) (aa 0) "homes") (vv 1) [qr i,qi (k:Int)] S=some (.p (.int (p:Int)),S):=h.ho.ix (h.homes rfl) rfl (bo e);have c:dM (aT Att) (aa 0) "families" [qr i,qi (k:Int)] S=some (.p (.lst B.fams),S):=h.families rfl;rw[b_];show(match aH _ [qr i,qi (k:Int)] S with|some (.rt d,_,x)=>some (d,x)|some (.nx,_,x)=>some (.p .non,x)|_=>none)=_;rw[qW,jn,c,au,ny,s];simp[bo a]
theorem AC{n:Nat}(F:2≤n){B:BD}(P:Pln B.fams B.roads B.wishes){b i:Nat}{S:aD}(h:Bd B b i S)(k:Nat){s:Str}(g:s ∈ B.N):∃a,Ph n "Board.hands_beside" [.ref i,.p (.int (k:Int)),.p (.str s)] S=some (.p (.lst (bn (oth B.N s k))),a)/\Fr b S a:=by
 obtain⟨n,rfl⟩:=fF (n:=n) (by first|assumption|lia);obtain⟨A,G,C,E,mk,I,h⟩:=h;obtain⟨j,u,m,e⟩:=h.mm s g;refine⟨_,?_,Fr.frz u e⟩;have r:uP (dM (aT Att) (aa 0) "members") (vv 2) [qr i,qi (k:Int),qs s] S=some (.ref j,S):=by rw[jn,h.members rfl];simp[h.me,b8,m]
 have l:(bn (bS B.N s)).length≤1000000:=by have:=dR B.N s;have:B.N.length≤4:=lI P;simp[bn];lia
 have t:a_ (ag 3) (bV (az ma (aa 3) (aa 1))) (vv 3) (bn (bS B.N s)) [qr i,qi (k:Int),qs s,none] (S.set j (.fz (.lst (bn (bS B.N s)))))=some (bn (oth B.N s k),S.set j (.fz (.lst (bn (bS B.N s))))):=by
  rw[bx (p:=λv=>match v with | .int x=>!decide (k=x.toNat)|_=>false) (f:=id) (Inv:=λL=>∃d,L=[qr i,qi (k:Int),qs s,d]) (λv c L w=>?_) ⟨none,rfl⟩]
  .congr 2;unfold bn oth;rw[mP,kA];rfl
  .obtain⟨d,rfl⟩:=w;unfold bn at c;obtain⟨o,K,rfl⟩:=aX.mp c;refine⟨[qr i,qi (k:Int),qs s,qi (o:Int)],rfl,⟨_,rfl⟩,?_,λ_=>by simp⟩;by_cases q:k=o
   .simp [q]
   .have y:¬(o:Int)=(k:Int):=by lia
    have H:¬o=k:=λz=>q z.symm;simp[q,y,H]
 rw[cc];show(match aH _ [qr i,qi (k:Int),qs s] S with|some (.rt d,_,a)=>some (d,a)|some (.nx,_,a)=>some (.p .non,a)|_=>none)=_;simp only[bv,qW,jQ,aU,d6,ny,r,au,e.frz];rw[if_pos (by rw[oe];exact l)];rw[show jK [] 1 [some (D.ref i),qi (k:Int),qs s]=[qr i,qi (k:Int),qs s,none] from rfl,t];rfl
structure GC(B:BD) where
 b:Nat
 i:Nat
 S0:aD
 r:Nat
 bd:Bd B b i S0
 hr:S0.length≤r
theorem GC.le(G:GC B):G.b≤G.S0.length:=G.bd.le
theorem dJ{i:Type}{g:iU}{b:ES}{p:i->Lc->Prop}{Sp:i->aD->Prop}{r:i->Nat}{c M:Nat}{f:P->List P}:∀{s:List P},
  (∀x ∈ s,(f x).length≤c/\∀G L S w,p G L->Sp G S->S[r G]? = some (.lst (w.map .p))->w.length+c≤M->∃k L2 e,g x L=some k/\b k S=some (.nx,L2,e)/\p G L2/\Sp G e/\e[r G]? = some (.lst ((w++f x).map .p))) ->
  (s.flatMap f).length≤c * s.length/\∀G L S w,p G L->Sp G S->S[r G]? = some (.lst (w.map .p))->w.length+c * s.length≤M->∃n a,aR g b s L S=some (.nx,n,a)/\p G n/\Sp G a/\a[r G]? = some (.lst ((w++s.flatMap f).map .p))
 | [],_=>⟨by simp,λG L S w m v h _=>⟨L,S,rfl,m,v,by rw[List.flatMap_nil,List.append_nil];exact h⟩⟩
 |x::s,j=>by
  obtain⟨D,H⟩:=j x List.mem_cons_self;obtain⟨I,C⟩:=dJ (s:=s) λy B=>j y (aS _ B);have A:c * (x::s).length=c+c * s.length:=by rw[bc,Nat.mul_succ,Nat.add_comm]
  refine⟨by rw[A,hE,cJ];lia,λG L S w m v h E=>?_⟩;obtain⟨k,L2,e,l,z,q,u,F⟩:=H G L S w m v h (by lia);obtain⟨n,a,o,t,d,K⟩:=C G L2 e (w++f x) q u F (by rw[cJ];lia);exact⟨n,a,by rw[bu l z];exact o,t,d,by rw[hE,<- List.append_assoc];exact K⟩
theorem kg{m:Type}{g:iU}{b:ES}{p:m->Lc->Prop}{Sp:m->aD->Prop}{r:m->Nat}{R:P->List P->Prop}{c M:Nat}{s:List P}
  (h:∀x ∈ s,∃y:List P,y.length≤c/\R x y/\∀G L S w,p G L->Sp G S->S[r G]? = some (.lst (w.map .p))->w.length+c≤M->∃q L2 n,g x L=some q/\b q S=some (.nx,L2,n)/\p G L2/\Sp G n/\n[r G]? = some (.lst ((w++y).map .p))) :
  ∃f:P->List P,(s.flatMap f).length≤c * s.length/\(∀x ∈ s,R x (f x))/\∀G L S w,p G L->Sp G S->S[r G]? = some (.lst (w.map .p))->w.length+c * s.length≤M->∃t e,aR g b s L S=some (.nx,t,e)/\p G t/\Sp G e/\e[r G]? = some (.lst ((w++s.flatMap f).map .p)):=by
 let f:P->List P:=λx=>@dite _ (x ∈ s) (Classical.propDecidable _) (λa=>Classical.choose (h x a)) λ_=>[]
 have v:∀x a,f x=Classical.choose (h x a):=λx a=>dif_pos a;have k:=λx a=>Classical.choose_spec (h x a);obtain⟨d,u⟩:=dJ (f:=f) λx a=>by rw[v x a];exact⟨(k x a).1,(k x a).2.2⟩
 exact⟨f,d,λx a=>by rw[v x a];exact(k x a).2.1,u⟩
theorem kG{l:List Nat}(h:l.Pairwise (·≠·)):(bn l).Pairwise (·≠·):=j6.mpr (h.imp λ{a b} h q=>h (by have:=P.int.inj q;lia))
theorem na(N:LS)(s:Str):(bS N s).Pairwise (·≠·):=(j5 (n:=N.length)).filter _
theorem hR{S:aD}{r:Nat}{o x:SO}(h:S[r]? = some o):(S.set r x)[r]? = some x:=by rw[dD (aY h)]
variable{k:Nat}{w:List P}
theorem kR(n:r L S=some (.ref k,S))(h:S[k]? = some (.lst (w.map .p)))(s:a L S=some (.lst y,e))(x:e[k]? = some (.lst (w.map .p)))(l:w.length+y.length≤1000000):bP (dP r a) L S=some (.nx,L,e.set k (.lst ((w++y).map .p))):=by rw[kE,vF,n,au];simp only[c8,h,s,au,x,a9];rw[if_pos (by rw[kW];exact l),List.map_append];rfl
theorem jD(n:r L S=some (.ref k,S))(h:S[k]? = some (.lst (w.map .p)))(s:a L S=some (.p y,e))(x:e[k]? = some (.lst (w.map .p)))(l:w.length≤1000000):bP (bg r a) L S=some (.nx,L,e.set k (.lst ((w++[y]).map .p))):=by rw[kE,ki,n,au];simp only[c8,h,s,au,x];rw[if_pos (by rw[oe,a9];exact l),List.map_append];rfl
theorem Dg{B:BD}(m:Pln B.fams B.roads B.wishes){f:P}(n:f ∈ B.fams):aC f ∈ B.N:=by
 have p:1≤f8 f:=by
  obtain⟨q,c,o,e,w,t,h,rfl⟩:=m.hf f n;have:=h.hcr.1
  simp[f8];lia
 have y:∀(a:List P)(k:Nat),f ∈ a->∃x ∈ hw k a,x.2=f:=by
  intro a;induction a with
  |nil=>intro k h;cases h
  |cons g r i=>
   intro k h;rcases bq.mp h with rfl|h
   .exact⟨(k,f),by unfold hw;exact fA _ (qf.mpr ⟨by lia,rfl⟩),rfl⟩
   .obtain⟨x,s,b⟩:=i (k+1) h;exact⟨x,by unfold hw;exact e_ _ s,b⟩
 obtain⟨x,s,rfl⟩:=y B.fams 0 n;unfold BD.N ao aq;exact aX.mpr ⟨x.2,aX.mpr ⟨x,s,rfl⟩,rfl⟩
theorem K5{B:BD}{k:Nat}{f:P}(h:(aq B.fams)[k]? = some f):B.N[k]? = some (aC f):=by unfold BD.N ao;rw[List.getElem?_map,h];rfl
def uK(B:BD)(u:List P)(hd:Nat)(y:P):Prop:=∃(s p k:Nat)(l:List P),y=.tup [.int (s:Int),.int (p:Int)]/\bR [.inl (s:Int),.inl (hd:Int)] B.ks B.vs=qi (k:Int)/\k < u.length/\u[k]? = some (.tup l)/\jx l/\p < l.length
theorem DD{B:BD}(hP:Pln B.fams B.roads B.wishes)(M:Places B){n:Nat}(hn:2≤n){u:List P}(hr:bb B u){hd s:Nat}{d:D}(H:bR [.inl (s:Int),.inl (hd:Int)] B.ks B.vs=some d){t:Str}{j:List P} :
  ∃E:List P,E.length≤3/\((∀y ∈ E,uK B u hd y)/\E.Pairwise (·≠·)/\∀y ∈ E,∃v,y=.tup [.int (s:Int),v])/\∀(b i:Nat)(S:aD)(r:Nat)(w:List P)(q6 q7 G C:Option D),Bd B b i S->S[r]? = some (.lst (w.map .p))->w.length+3≤1000000 ->
   ∃q6' q7' q8' q9',dh (Ph n) (Ph (n-1)) [qr i,qt u,qi (hd:Int),qt (.str t::j),qr r,qi (s:Int),q6,q7,G,C] S=some (.nx,[qr i,qt u,qi (hd:Int),qt (.str t::j),qr r,qi (s:Int),q6',q7',q8',q9'],S.set r (.lst ((w++E).map .p))):=by
 obtain⟨k,road,a,b',R,rfl,hk⟩:=M.ok _ _ _ H;obtain⟨Q,l,g,K⟩:=hr.at hk;obtain⟨ra,rb,f,c,d1,d2,ha,hb,hkd,hc1,hc2,rfl⟩:=hP.hr road R;have h3:=g.1;have e:∃e:List P,e.length≤l.length/\(∀y ∈ e,HG l.length y)/\e.Pairwise (·≠·)/\∀(L:Lc)(S:aD),L[7]? = some (qs f)->L[8]? = some (qt l)->Cw (bV (az dC (aa 7) (eV (vt "row")))) (lr (Ft (dA (aa 8))) gG (gc (vi 1))) (ae (pureOf (Ph n "unlike_spots")) (v2 (vv 7) (vv 8))) L S=some (.lst e,S):=by
  have eu:=Cy hn f g;have W:(bn (qN f l)).length≤l.length:=by unfold bn qN;rw[a9];exact aM (hJ ..) (by simp)
  have X:∀y ∈ bn (qN f l),HG l.length y:=λy F=>by obtain⟨i,N,rfl⟩:=aX.mp F;exact⟨i,dF.mp (fy.mp N).1,rfl⟩
  have Y:(bn (qN f l)).Pairwise (·≠·):=kG ((j5 (n:=l.length)).filter _);have O:(intsFrom 0 l.length).Pairwise (·≠·):=by rw[pQ];exact kG (j5 (n:=l.length))
  have hq:l.length < 1000000:=by lia
  by_cases o:f="row"
  .refine⟨cut (intsFrom 0 l.length) none (some 1),by have:=(kU (h:=intsFrom 0 l.length) (lo:=none) (i:=some 1)).2;rwa [bt]at this,λy F=>?_,(by rw[show(1:Int)=((1:Nat):Int) from rfl,sG];exact O.sublist (qz ..)),λL S I J=>?_⟩
   .obtain⟨i,rfl,N⟩:=dI (kU.1 y F);exact⟨i,N,by simp⟩
   .simp [I,J,o,b7,cy,hq]
  .exact⟨_,W,X,Y,λL S I J=>by simp[I,J,o,eu]⟩
 obtain⟨e,T,A,U,es⟩:=e;let p:P->Bool:=λv=>match v with | .int x=>decide (aC (l.getD x.toNat .non)=t)|_=>false
 refine⟨(e.filter p).map λv=>.tup [.int (s:Int),v],by rw[a9];exact aM (hJ ..) (aM T h3),⟨λy F=>?_,j6.mpr ((U.filter p).imp λ{a b} h q=>h (by simpa using q)),λy F=>by obtain⟨v,_,rfl⟩:=aX.mp F;exact⟨v,rfl⟩⟩,λb i S r w q6 q7 G C hB hS hM=>?_⟩
 .obtain⟨v,Z,rfl⟩:=aX.mp F;obtain⟨x,hx,rfl⟩:=A v (fy.mp Z).1;exact⟨s,x,k,l,rfl,H,Q,K,g,hx⟩
 .obtain⟨jh,jp,jl,jm,mk,mv,h⟩:=hB;have e2:a_ (ag 10) (bV (az dC (eV (ab al (ab al (vv 8) (vv 10)) (vi 0))) (eV (ab al (vv 3) (vi 0))))) (aA (v2 (vv 5) (vv 10))) e [qr i,qt u,qi (hd:Int),qt (.str t::j),qr r,qi (s:Int),qi (k:Int),qs f,qt l,ql e,none] S=some ((e.filter p).map λv=>.tup [.int (s:Int),v],S):=
   bx (Inv:=λL=>∃d,L=[qr i,qt u,qi (hd:Int),qt (.str t::j),qr r,qi (s:Int),qi (k:Int),qs f,qt l,ql e,d]) (λv Z L M=>by obtain⟨d,rfl⟩:=M;obtain⟨x,hx,rfl⟩:=A v Z;have H:l[x]? = some l[x]:=cK hx;obtain⟨m,z,_,_,hz⟩:=g.2 l[x] (gE _);rw[hz]at H;refine⟨[qr i,qt u,qi (hd:Int),qt (.str t::j),qr r,qi (s:Int),qi (k:Int),qs f,qt l,ql e,qi (x:Int)],rfl,⟨_,rfl⟩,?_,λ_=>by simp⟩;simp[bo H,p,H,aC]) ⟨none,rfl⟩
  refine⟨qi (k:Int),qs f,qt l,ql e,?_⟩;have V:e.length≤1000000:=by lia
  unfold dh;refine(aj (e:=[qr i,qt u,qi (hd:Int),qt (.str t::j),qr r,qi (s:Int),qi (k:Int),q7,G,C]) (b:=S) ?_).trans ?_
  .rw [cq,wN,h.places rfl];simp[iG,h.pl,cn,b8,H]
  refine(aj (e:=[qr i,qt u,qi (hd:Int),qt (.str t::j),qr r,qi (s:Int),qi (k:Int),qs f,G,C]) (b:=S) ?_).trans ?_
  .rw [cq,jn,jn,h.pr.ix (h.pairs rfl) (i:=(k:Int)) rfl (bo hk)];simp[pr]
  refine(aj (e:=[qr i,qt u,qi (hd:Int),qt (.str t::j),qr r,qi (s:Int),qi (k:Int),qs f,qt l,C]) (b:=S) ?_).trans ?_
  .simp [bo K]
  refine(aj (e:=[qr i,qt u,qi (hd:Int),qt (.str t::j),qr r,qi (s:Int),qi (k:Int),qs f,qt l,ql e]) (b:=S) ?_).trans ?_
  .rw [cq,jQ,es _ S rfl rfl];rfl
  refine kR rfl hS ?_ hS (by rw[a9];have:=hJ p e;lia);simp only[aU,d6,ny];simp[V,jK,e2]
theorem A_{B:BD}(C:Pln B.fams B.roads B.wishes)(hL:Places B){n:Nat}(hn:4≤n){hd:Nat}{f:P}(hf:(aq B.fams)[hd]? = some f){u I:List P}(hr:bb B u){E:P}(ht:lF (aC f) B.roads I E) :
  ∃k:List P,k.length≤12/\((∀y ∈ k,(E=.non/\y=.non)\/(E≠.non/\uK B u hd y))/\k.Pairwise (·≠·)/\(E=.non->k=[.non]))/\∀(b i:Nat)(S:aD),Bd B b i S->∃d F,Ph n "takeable" [.ref i,.p (.tup u),.p (.int (hd:Int)),.p E] S=some (d,F)/\Fr b S F/\ku S F d k:=by
 obtain⟨n,rfl⟩:=fF (n:=n) (by first|assumption|lia);rcases ht with rfl|⟨m,a,t,p,_,_,_,_,⟨r,D,hrb,rfl⟩,_,rfl⟩
 .refine⟨[.non],by simp,⟨λy l=>.inl ⟨rfl,by simpa using l⟩,by simp,λ_=>rfl⟩,λb i S A=>⟨.p (.lst [.non]),S,?_,Fr.refl _ _,.inl rfl⟩⟩;rw[fj];simp[cL,db,pS,de]
 .have H:rA r ∈ B.N:=by
   obtain⟨⟨f',h1,z⟩,_⟩:=C.ra r D;rw[<- z];exact Dg C h1
  obtain⟨f5,h1,z,h3⟩:=kg (m:=GC B) (g:=ag 5) (b:=dh (Ph (n+1)) (Ph n)) (Sp:=λG S=>Fr G.b G.S0 S) (r:=λG=>G.r) (R:=λx k=>(∀y ∈ k,uK B u hd y)/\k.Pairwise (·≠·)/\∀y ∈ k,∃v,y=.tup [x,v]) (c:=3) (M:=1000) (s:=bn (oth B.N (rA r) hd))
   (p:=fun G L=>∃q5 J N O Q,L=[qr G.i,qt u,qi (hd:Int),qt [.str m,.str (rA r),.str t,.str p],qr G.r,q5,J,N,O,Q]) (fun x j=>by
    unfold bn at j;obtain⟨s,H,rfl⟩:=aX.mp j;unfold oth at H;rw[fy]at H;have hsd:s≠hd:=λq=>by have:=H.2;simp[q]at this
    obtain⟨d,hg⟩:=hL.get r s hd (Ix D (lQ.mp H.1) (by rw[K5 hf,hrb]) hsd);obtain⟨k,k1,k2,k3⟩:=DD C hL (n:=n+1) (by lia) hr hg (t:=m) (j:=[.str (rA r),.str t,.str p]);refine⟨k,k1,k2,λG L S w W hS h hM=>?_⟩;obtain⟨q5,J,N,O,Q,rfl⟩:=W;obtain⟨q6',q7',q8',q9',e⟩:=k3 G.b G.i S G.r w J N O Q (G.bd.fr hS) h (by lia);exact⟨_,_,_,rfl,e,⟨_,_,_,_,_,rfl⟩,hS.set G.le G.hr _,hR h⟩)
  have hol:(bn (oth B.N (rA r) hd)).length≤4:=by
   have h4:B.N.length≤4:=lI C;have:=dR B.N (rA r)
   have:=hJ (λo=>!decide (hd=o)) (bS B.N (rA r));simp[bn,oth];lia
  have hnd:(bn (oth B.N (rA r) hd)).Pairwise (·≠·):=kG ((na ..).filter _);have hpw:((bn (oth B.N (rA r) hd)).flatMap f5).Pairwise (·≠·):=iw.mpr ⟨λx j=>(z x j).2.1,hnd.imp_of_mem λ{a b} ha Y X x j y l q=>by obtain⟨v,rfl⟩:=(z a ha).2.2 x j;obtain⟨v',rfl⟩:=(z b Y).2.2 y l;simp only[P.tup.injEq,bN]at q;exact X q.1⟩
  refine⟨_,by lia,⟨λy l=>.inr ⟨λq=>(by cases q),by obtain⟨x,j,l⟩:=cw.mp l;exact(z x j).1 y l⟩,hpw,λq=>(by cases q)⟩,λb i S A=>?_⟩
  have oI:=Fr.app b S [.lst []];obtain⟨S1,e1,K⟩:=AC (n:=n+1) (by lia) C (A.fr oI) hd H;have T:=oI.trans K;have Y:=A.le;obtain⟨L',F,e2,⟨q5,J,N,O,Q,rfl⟩,U,hl⟩:=h3 ⟨b,i,S,S.length,A,Nat.le_refl _⟩ [qr i,qt u,qi (hd:Int),qt [.str m,.str (rA r),.str t,.str p],qr S.length,none,none,none,none,none] S1 [] ⟨_,_,_,_,_,rfl⟩ T (K.hi _ _ Y (gy _ _)) (by simp;lia);refine⟨.ref S.length,F,?_,U,.inr ⟨S.length,Nat.le_refl _,rfl,.inl hl⟩⟩;rw[fj];have V:=A.fr oI;obtain⟨jh,jp,jl,jm,mk,mv,Z⟩:=V;have em:dB (mT Tb (Ph (n+1))) (aa 0) "hands_beside" (ac (aa 2) (ac (eV (ab al (vv 3) (vi 1))) ba)) [qr i,qt u,qi (hd:Int),qt [.str m,.str (rA r),.str t,.str p],qr S.length,none,none,none,none,none] (S++[.lst []])=some (.p (.lst (bn (oth B.N (rA r) hd))),S1):=
   (Z.meth rfl (Lj _) Lw (l:=[.p (.int (hd:Int)),.p (.str (rA r))]) (by simp)).trans e1
  simp[cL,db,pS,de,-ij,em,e2]
def mu(v:P):Prop:=∃j:Int,v=.int j
theorem mu.ok(h:mu v)(n:Nat):cb n v=true:=by obtain⟨j,rfl⟩:=h;simp
variable{m:Str}
theorem D1(hP:Pln B.fams B.roads B.wishes)(hL:Places B)(hn:2≤n)(T:bb B u)(hd t v:Int)(hm:PyData.strOk m=true) :
  ∃I:Option (List P),(∀j,I=some j->bb B j)/\∀(b i:Nat)(S:aD)(s:P)(p e x:Option D),Bd B b i S->∃C E G,
   eD (Ph n) (Ph (n-1)) [qr i,qt u,qi hd,qp s,qt [.str m,.int v],qi t,p,e,x] S=match I with
    |none=>some (.rt (.p .non),[qr i,qt u,qi hd,qp s,qt [.str m,.int v],qi t,C,E,G],S)
    |some j=>some (.nx,[qr i,qt j,qi hd,qp s,qt [.str m,.int v],qi t,C,E,G],S):=by
 cases N:bR [.inl hd,.inl t] B.ks B.vs with
 |none=>
  refine⟨none,λ_ q=>(by cases q),λb i S s p e x r=>⟨qp .non,e,x,?_⟩⟩;obtain⟨V,Y,W,X,mk,Z,h⟩:=r;unfold eD;refine(aj (e:=[qr i,qt u,qi hd,qp s,qt [.str m,.int v],qi t,qp .non,e,x]) (b:=S) ?_).trans (u6 ?_)
  .rw [cq,ue,h.places rfl];simp[iG,h.pl,cn,b8,N]
  .simp [pS,de]
 |some d=>
  obtain⟨k,road,a,b',U,rfl,O⟩:=hL.ok _ _ _ N;obtain⟨Q,A,R,l⟩:=T.at O;obtain⟨ra,rb,J,c,d1,d2,ha,hb,hkd,hc1,hc2,y⟩:=hP.hr road U;have L:L2.atI [P.str ra,.str rb,.str J,.int c,.bl d1,.bl d2] 3=some (.int c):=aF (by decide) rfl;have s1:∀(b i:Nat)(S:aD)(s:P)(p e x:Option D),Bd B b i S->am 6 (uf (dM (aT Att) (aa 0) "places") (v2 (vv 2) (vv 5))) [qr i,qt u,qi hd,qp s,qt [.str m,.int v],qi t,p,e,x] S=some (.nx,[qr i,qt u,qi hd,qp s,qt [.str m,.int v],qi t,qi (k:Int),e,x],S):=λb i S s p e x r=>by obtain⟨V,Y,W,X,mk,Z,h⟩:=r;rw[cq,ue,h.places rfl];simp[iG,h.pl,cn,b8,N]
  by_cases hv:v.natAbs≤999
  .have g:¬(999:Int) < (if v < 0 then -v else v):=by split<;>lia
   by_cases M:c≤(A.length:Int)
   .refine⟨none,λ_ q=>(by cases q),λb i S s p e x r=>⟨qi (k:Int),qp road,x,?_⟩⟩;refine(aj (s1 b i S s p e x r)).trans ((aj (e:=[qr i,qt u,qi hd,qp s,qt [.str m,.int v],qi t,qi (k:Int),e,x]) (b:=S) ?_).trans ((aj (e:=[qr i,qt u,qi hd,qp s,qt [.str m,.int v],qi t,qi (k:Int),qp road,x]) (b:=S) ?_).trans (u6 ?_)))
    .simp [pS,de,mn,g]
    .obtain⟨V,Y,W,X,mk,Z,h⟩:=r;rw[cq,jn,h.pr.ix (h.pairs rfl) (i:=(k:Int)) rfl (bo O)];simp[pr]
    .simp [y,bo l,b7,cy,L,M]
   .have H:(A++[P.tup [.str m,.int v]]).length≤3:=by simp;lia
    have F:jx (A++[P.tup [.str m,.int v]]):=⟨H,cC R.2 ⟨m,v,hm,hv,rfl⟩⟩;have ea:=gA (xs:=A) (c:=[P.tup [.str m,.int v]]) (by simp at H ⊢;lia);obtain⟨zs,hz,ez⟩:=pE F;have hpl:=oG hP;have hrl:=T.1;have er:=λ(w:P)=>nH hn (xs:=u) (k:=k) Q (by lia) w;obtain⟨f,o,K⟩:∃f,jx f/\((J="heap"/\f=zs)\/(¬J="heap"/\f=A++[P.tup [.str m,.int v]])):=by
     by_cases z:J="heap"
     .exact⟨zs,hz,.inl ⟨z,rfl⟩⟩
     .exact⟨_,F,.inr ⟨z,rfl⟩⟩
    refine⟨some (u.set k (.tup f)),λ_ q=>by cases q;exact T.set k o,λb i S s p e x r=>⟨qi (k:Int),qp road,qt f,?_⟩⟩;refine(aj (s1 b i S s p e x r)).trans ((aj (e:=[qr i,qt u,qi hd,qp s,qt [.str m,.int v],qi t,qi (k:Int),e,x]) (b:=S) ?_).trans ((aj (e:=[qr i,qt u,qi hd,qp s,qt [.str m,.int v],qi t,qi (k:Int),qp road,x]) (b:=S) ?_).trans ?_))
    .simp [pS,de,mn,g]
    .obtain⟨V,Y,W,X,mk,Z,h⟩:=r;rw[cq,jn,h.pr.ix (h.pairs rfl) (i:=(k:Int)) rfl (bo O)];simp[pr]
    rcases K with ⟨z,rfl⟩|⟨z,rfl⟩
    .simp [y,bo l,b7,cy,L,M,ea,z,xn,Bf,ez,bD,er]
    .simp [y,bo l,b7,cy,L,M,ea,z,er]
  .have g:(999:Int) < (if v < 0 then -v else v):=by split<;>lia
   refine⟨none,λ_ q=>(by cases q),λb i S s p e x r=>⟨qi (k:Int),e,x,?_⟩⟩;refine(aj (s1 b i S s p e x r)).trans (u6 ?_);simp[pS,de,mn,g]
theorem wq(F:Pln B.fams B.roads B.wishes)(H:Places B)(A:2≤n)(hd v:Int)(K:PyData.strOk m=true):∀{l:List P},(∀t ∈ l,mu t)->∀{u:List P},bb B u ->
  ∃r:Option (List P),(∀s,r=some s->bb B s)/\∀(b i:Nat)(S:aD)(d:P)(w f c p:Option D),Bd B b i S->∃L z h a k,
   aR (ag 5) (eD (Ph n) (Ph (n-1))) l [qr i,qt u,qi hd,qp d,qt [.str m,.int v],w,f,c,p] S=match r with
    |none=>some (.rt (.p .non),L,S)
    |some s=>some (.nx,[qr i,qt s,qi hd,qp d,qt [.str m,.int v],z,h,a,k],S)
 | [],_,u,y=>⟨some u,λ_ q=>by cases q;exact y,λb i S d w f c p _=>⟨[],w,f,c,p,rfl⟩⟩
 |t::l,C,u,y=>by
  obtain⟨j,rfl⟩:=C t List.mem_cons_self;obtain⟨r,N,o⟩:=D1 F H A y hd j v K;cases r with
  |none=>refine⟨none,λ_ q=>(by cases q),λb i S d w f c p g=>?_⟩;obtain⟨h,a,k,e⟩:=o b i S d f c p g;exact⟨_,w,f,c,p,t6 rfl e⟩
  |some s=>obtain⟨r,Q,R⟩:=wq F H A hd v K (l:=l) (λx O=>C x (aS _ O)) (N s rfl);refine⟨r,Q,λb i S d w f c p g=>?_⟩;obtain⟨h,a,k,e⟩:=o b i S d f c p g;obtain⟨L,E,G,I,J,M⟩:=R b i S d (qi j) h a k g;exact⟨L,E,G,I,J,by rw[<- M];exact bu rfl e⟩
theorem Br(p:Pln B.fams B.roads B.wishes)(f:Places B)(g:3≤n)(hd v:Int)(q:PyData.strOk m=true)(w:∀t ∈ c,mu t)(d:bb B u) :
  ∃a:P,(a=.non\/∃r,bb B r/\a=.tup r)/\∀(b i:Nat)(S:aD),Bd B b i S->Ph n "posted" [.ref i,.p (.tup u),.p (.int hd),.p (.lst c),.p (.tup [.str m,.int v])] S=some (.p a,S):=by
 obtain⟨n,rfl⟩:=fF (n:=n) (by first|assumption|lia);obtain⟨s,k,x⟩:=wq p f (n:=n+1) (by lia) hd v q w d;cases s with
 |none=>refine⟨.non,.inl rfl,λb i S h=>?_⟩;obtain⟨L,_,_,_,_,e⟩:=x b i S (.lst c) none none none none h;rw[gN];simp only[j7]at e;simp[cL,eQ,e]
 |some r=>refine⟨.tup r,.inr ⟨r,k r rfl,rfl⟩,λb i S h=>?_⟩;obtain⟨L,_,_,_,_,e⟩:=x b i S (.lst c) none none none none h;rw[gN];simp only[j7]at e;simp[cL,eQ,e]
def Co(y z:P):Prop:=∀s a:List P,∀q h:P,y=.tup [.tup s,q]->z=.tup [.tup a,h]->s≠a
def CO(dl:Nat)(y:P):Prop:=∃s h,y=.tup [.tup s,.lst h]/\s.length=dl/\(∀a ∈ s,mu a)/\∀t ∈ h,mu t
noncomputable abbrev df(n:Str)(e:Nat)(r c w s:List P):P:=.tup [.str n,.int (e:Int),.lst r,.lst c,.lst w,.lst s]
theorem we{s:List P}(h:∀x ∈ s,jG x){x:Str}(a:P.str x ∈ s):∃i:Nat,i < s.length/\i0 s (.str x)=some i:=nX (λy e=>(h y e).ok 19) a
theorem tg_ok{B:BD}(N:Pln B.fams B.roads B.wishes){n:Nat}(hn:4≤n){hd:Nat}{Q:Str}{u:Nat}{m c s x:List P}(hF:Fam B.roads Q u m c s x)(hf:(aq B.fams)[hd]? = some (df Q u m c s x)){l:List P}(hw:l.length=s.length)(X:∀w ∈ l,mu w){j K:Str}
  (hc:(j="who"/\P.str K ∈ s)\/((j="all"\/j="any")/\∃r ∈ B.roads,rA r=Q/\K=rB r)) :
  ∃(R:List P)(dl:Nat),dl≤1/\R.length≤4/\((∀y ∈ R,CO dl y)/\R.Pairwise Co)/\∀(b i:Nat)(S:aD),Bd B b i S->∃C,Ph n "targets_of" [.ref i,.p (.int (hd:Int)),.p (.str j),.p (.str K),.p (.tup l)] S=some (.p (.lst R),C)/\Fr b S C:=by
 obtain⟨n,rfl⟩:=fF (n:=n) (by first|assumption|lia);rcases hc with ⟨rfl,U⟩|⟨J,r,V,hra,rfl⟩
 .obtain⟨k,hk,ek⟩:=we hF.hwh U;have Z:l[k]? = some (l[k]'(by lia)):=cK (by lia);generalize hv:l[k]'(by lia)=v at Z;have W:mu v:=by rw[<- hv];exact X _ (gE _)
  refine⟨[.tup [.tup [],.lst [v]]],0,by simp,by simp,⟨λy M=>⟨[],[v],by simpa using M,by simp,λ_ h=>(by cases h),λt O=>by rw[fY.mp O];exact W⟩,by simp⟩,λb i S H=>⟨S,?_,Fr.refl _ _⟩⟩;have ef:=vw (n:=n+1) (by lia) H hf;obtain⟨jh,jp,jl,jm,mk,mv,h⟩:=H;have E:dB (mT Tb (Ph (n+1))) (aa 0) "family_of" (ac (aa 1) ba) [qr i,qi (hd:Int),qs "who",qs K,qt l,none] S=some (.p (df Q u m c s x),S):=
   (h.meth rfl (IW _) I0 (l:=[.p (.int (hd:Int))]) (by simp)).trans ef
  rw[cW];simp[cL,bW,-ij,E,Jo,ek,bo Z]
 .have hs:rB r ∈ B.N:=by
   obtain⟨_,⟨f',h1,h2⟩⟩:=N.ra r V;rw[<- h2];exact Dg N h1
  have I:(bn (oth B.N (rB r) hd)).length≤4:=by
   have h4:B.N.length≤4:=lI N;have:=dR B.N (rB r)
   have:=hJ (λo=>!decide (hd=o)) (bS B.N (rB r));simp[bn,oth];lia
  have F:∀t ∈ bn (oth B.N (rB r) hd),mu t:=λt O=>by unfold bn at O;obtain⟨o,_,rfl⟩:=aX.mp O;exact⟨_,rfl⟩
  have E:∀(b i:Nat)(S:aD),Bd B b i S->∃C,dB (mT Tb (Ph (n+1))) (aa 0) "hands_beside" (ac (aa 1) (ac (aa 3) ba)) [qr i,qi (hd:Int),qs j,qs (rB r),qt l,none] S=some (.p (.lst (bn (oth B.N (rB r) hd))),C)/\Fr b S C:=λb i S H=>by obtain⟨A,D,g⟩:=AC (n:=n+1) (by lia) N H hd hs;obtain⟨jh,jp,jl,jm,mk,mv,h⟩:=H;exact⟨A,(h.meth rfl (Lj _) Lw (l:=[.p (.int (hd:Int)),.p (.str (rB r))]) (by simp)).trans D,g⟩
  have G:(bn (oth B.N (rB r) hd)).Pairwise (·≠·):=kG ((na ..).filter _);generalize bn (oth B.N (rB r) hd)=os at I F E G;rcases J with rfl|rfl
  .refine⟨[.tup [.tup [],.lst os]],0,by simp,by simp,⟨λy M=>⟨[],os,by simpa using M,by simp,λ_ h=>(by cases h),F⟩,by simp⟩,λb i S H=>?_⟩;obtain⟨A,D,g⟩:=E b i S H;refine⟨A,?_,g⟩;rw[cW];simp[cL,bW,-ij,D]
  .refine⟨os.map fun o=>.tup [.tup [o],.lst [o]],1,by simp,by simpa using I,⟨fun y M=>?_,j6.mpr (G.imp fun {a b} h as as' q q' e Y z=>h (by
    simp only[P.tup.injEq,bN,cD]at e Y;rw[<- e.1,<- Y.1]at z;simpa using z))⟩,λb i S H=>?_⟩
   .obtain⟨o,ho,rfl⟩:=aX.mp M;exact⟨[o],[o],rfl,by simp,λa T=>by rw[fY.mp T];exact F o ho,λa T=>by rw[fY.mp T];exact F o ho⟩
   .obtain⟨A,D,g⟩:=E b i S H;refine⟨A,?_,g⟩;have e2:a_ (ag 6) gQ (aA (v2 (aA (v1 (vv 6))) (aQ (v1 (vv 6))))) os [qr i,qi (hd:Int),qs "any",qs (rB r),qt l,ql os,none] A=some (os.map λo=>.tup [.tup [o],.lst [o]],A):=by
     rw[bx (p:=λ_=>true) (f:=λo=>.tup [.tup [o],.lst [o]]) (Inv:=λL=>∃d,L=[qr i,qi (hd:Int),qs "any",qs (rB r),qt l,ql os,d]) (λv hv L hL=>?_) ⟨none,rfl⟩,gZ];obtain⟨d,rfl⟩:=hL;exact⟨[qr i,qi (hd:Int),qs "any",qs (rB r),qt l,ql os,qp v],rfl,⟨_,rfl⟩,rfl,λ_=>by simp⟩
    have hq:os.length≤1000000:=by lia
    rw[cW];simp[cL,bW,-ij,D,aU,hq,jK,e2]
def nU(y:P):Prop:=∃s p:Nat,y=.tup [.int (s:Int),.int (p:Int)]
theorem Gf{n:Nat}(B:3≤n){j:List P}{d:Str}{e:Nat}{r c o t:List P}(F:Fam j d e r c o t){f:List P}(hw:f.length=o.length)(i:∀w ∈ f,mu w){p y:P}(H:lF d j o p)(K:(p=.non/\y=.non)\/(p≠.non/\nU y)) :
  ∃x,x.length=o.length/\((∀w ∈ x,mu w)/\(p=.non->x=f))/\pureOf (Ph n "whos_behind") [df d e r c o t,.tup f,p,y]=some (.tup x):=by
 obtain⟨n,rfl⟩:=fF (n:=n) (by first|assumption|lia);rcases H with rfl|⟨m,a,g,u,_,_,_,_,_,b,rfl⟩
 .refine⟨f,hw,⟨i,λ_=>rfl⟩,?_⟩;rw[cx,ah];simp[bA,pS,de]
 .obtain⟨s,C,rfl⟩:nU y:=by
   rcases K with ⟨q,_⟩|⟨_,q⟩
   .cases q
   .exact q
  by_cases v:u=""
  .refine⟨f,hw,⟨i,λ_=>rfl⟩,?_⟩;rw[cx,ah];simp[bA,pS,de,v]
  .obtain⟨k,A,l⟩:=we F.hwh (b.resolve_left v);have S:=F.wl;have z:=nH (n:=n+1) (by lia) (xs:=f) (k:=k) (by lia) (by lia) (.int (s:Int));refine⟨f.set k (.int (s:Int)),by rw[eY];exact hw,⟨λw h=>?_,λq=>(by cases q)⟩,?_⟩
   .rcases List.mem_or_eq_of_mem_set h with h|rfl
    .exact i w h
    .exact⟨_,rfl⟩
   .rw [cx,ah];simp[bA,pS,de,v,Jo,l,z]
theorem r_(x:bB)(y:P):∀(n:List bB)(c:List P),n.Nodup->n.length=c.length->∃s a,oB x (.p y) n (c.map .p)=(s,a.map .p)/\s.Nodup/\s.length=a.length/\s.length≤n.length+1/\(∀k ∈ s,k=x\/k ∈ n)/\∀k,bI k s a=if x=k then some y else bI k n c
 | [],[],_,_=>⟨[x],[y],rfl,by simp,rfl,by simp,λk h=>.inl (by simpa using h),λk=>by by_cases q:x=k<;>simp[bI,q]⟩
 | [],_::_,_,h=>by simp at h
 |_::_,[],_,h=>by simp at h
 |f::n,v::c,m,l=>by
  obtain⟨t,m⟩:=List.nodup_cons.mp m;by_cases q:f=x
  .refine⟨f::n,y::c,by simp[oB,q],List.nodup_cons.mpr ⟨t,m⟩,by simpa using l,by simp,λk h=>.inr h,λk=>?_⟩;subst q;by_cases b:f=k
   .simp [bI,b]
   .simp [bI,b]
  .obtain⟨s,a,e,d,w,g,r,u⟩:=r_ x y n c m (by simpa using l);refine⟨f::s,v::a,by simp[oB,q,e],List.nodup_cons.mpr ⟨λz=>?_,d⟩,by simp[w],by simp;lia,λk h=>?_,λk=>?_⟩
   .rcases r f z with z|z
    .exact q z
    .exact t z
   .rcases bq.mp h with rfl|h
    .exact .inr List.mem_cons_self
    .rcases r k h with h|h
     .exact .inl h
     .exact .inr (aS _ h)
   .show (if f=k then some v else bI k s a)=_;by_cases b:f=k
    .subst b;have:¬x=f:=λz=>q z.symm
     simp[bI,this]
    .rw [if_neg b,u];by_cases p:x=k
     .simp [p]
     .simp [p,bI,b]
structure Giv(gk:List bB)(gv:List P):Prop where
 nd:gk.Nodup
 ln:gk.length=gv.length
 le:gk.length≤100
 iv:∀k v,bI k gk gv=some v->mu v
variable{s:List bB}{f:List P}
theorem Giv.put(h:Giv s f)(l:s.length≤99)(y:bB)(i:Int):∃g x,oB y (.p (.int i)) s (f.map .p)=(g,x.map .p)/\Giv g x/\g.length≤s.length+1:=by
 obtain⟨n,b,e,c,m,r,p,t⟩:=r_ y (.int i) s f h.nd h.ln;refine⟨n,b,e,⟨c,m,by lia,λk v a=>?_⟩,r⟩;rw[t]at a;split at a
 .cases a;exact⟨_,rfl⟩
 .exact h.iv k v a
theorem wk{o:EE}{k v:EV}{L:Lc}{S n:aD}{j:Nat}{s:List bB}{f:List P}{x:Str}{i:Int}(h:Giv s f)(l:s.length≤99)(q:v L S=some (.int i,n))(p:o L n=some (.ref j,n))(t:k L n=some (.str x,n))(r:n[j]? = some (.dct s (f.map .p))):∃g a,Giv g a/\g.length≤s.length+1/\fw o k v L S=some (.nx,L,n.set j (.dct g (a.map .p))):=by
 obtain⟨g,a,e,c,m⟩:=h.put l (.inr x) i;refine⟨g,a,c,m,?_⟩;have b:oR o k v L S=some (.nx,L,n.set j (.dct g (a.map .p))):=by unfold oR;rw[q,au,p,au,t,au];simp only[jF,r,b8];rw[if_pos ⟨h.nd,by rw[oe];lia⟩,e]
 unfold fw;rw[b]
theorem pM{k:bB}:∀{s:List bB}{x:List P},xQ k s=false->bI k s x=none
 | [],_,_=>by cases ‹List P›<;>rfl
 |_::_,[],_=>rfl
 |a::s,v::x,h=>by unfold xQ at h;rw[gC,Bool.or_eq_false_iff]at h;show(if a=k then some v else bI k s x)=none;rw[if_neg (of_decide_eq_false h.1)];exact pM h.2
noncomputable abbrev cT(x:Str)(m w t:P)(c s:List P)(r:P):P:=.tup [.str x,m,w,t,.lst c,.lst s,r]
theorem oH(a b c d e f g:P):L2.atI [a,b,c,d,e,f,g] 3=some d:=aF (by decide) rfl
theorem CB(a b c d e f g:P):L2.atI [a,b,c,d,e,f,g] 4=some e:=aF (by decide) rfl
theorem Fw(a b c d e f g:P):L2.atI [a,b,c,d,e,f,g] 5=some f:=aF (by decide) rfl
theorem yI(a b c d e f g:P):L2.atI [a,b,c,d,e,f,g] 6=some g:=aF (by decide) rfl
theorem KQ(a b c d e f:P):L2.atI [a,b,c,d,e,f] 2=some c:=aF (by decide) rfl
theorem Lx(a b c d e f:P):L2.atI [a,b,c,d,e,f] 5=some f:=aF (by decide) rfl
theorem Fc(G:Giv s f)(B:o=.dct s (f.map .p)\/o=.fz (.dct s f))(E:l_ c)(m:r[k]? = some z)(F:∃i:Int,i.natAbs≤999/\z=.int i)(T:w.length≤1000)(t p q:Option D) :
  (∃L,aI M J [qp a,qt r,qp st,qp A,qr 0,t,p,qr 1,qi (k:Int),qp c,q] [o,.lst (w.map .p)]=some (.rt (.p .non),L,[.fz (.dct s f),.lst (w.map .p)])) \/
  ∃i:Int,i.natAbs≤999/\aI M J [qp a,qt r,qp st,qp A,qr 0,t,p,qr 1,qi (k:Int),qp c,q] [o,.lst (w.map .p)]=some (.nx,[qp a,qt r,qp st,qp A,qr 0,t,p,qr 1,qi (k:Int),qp c,qi i],[.fz (.dct s f),.lst ((w++[P.int i]).map .p)]):=by
 obtain⟨x,lo,j,u,_,N,O,Q,R,rfl⟩:=E;obtain⟨K,S,rfl⟩:=F;have d:toP 9 (.ref 0) [o,.lst (w.map .p)]=some (.dct s f,[.fz (.dct s f),.lst (w.map .p)]):=by
  rcases B with rfl|rfl
  .have:ri (toP 8) (f.map .p) [SO.dct s (f.map .p),.lst (w.map .p)]=some (f,[SO.dct s (f.map .p),.lst (w.map .p)]):=kJ ..;simp[toP,this]
  .rfl
 have I:mu ((bI (.inr x) s f).getD (.int K)):=by
  cases e:bI (.inr x) s f with
  |none=>exact⟨K,rfl⟩
  |some v=>exact G.iv _ v e
 obtain⟨n,h⟩:=I;have l:w.length≤1000000:=by lia
 cases b:xQ (.inr x) s with
 |false=>
  have y:n=K:=by rw[pM b]at h;exact(P.int.inj h).symm
  right;refine⟨n,by rw[y];exact S,?_⟩;rw[<- cm];simp[aI,d,b8,bo m,h,C0,B3,jR,b,c8,l]
 |true=>
  by_cases H:lo≤n/\n≤j
  .right;refine⟨n,by lia,?_⟩;rw[<- cm];simp[aI,d,b8,bo m,h,C0,B3,jR,b,c8,l,H.1,H.2]
  .left;refine⟨[qp a,qt r,qp st,qp A,qr 0,t,p,qr 1,qi (k:Int),qt [.str x,.int lo,.int j,.int u],qi n],?_⟩;by_cases g:lo≤n
   .have C:¬n≤j:=λz=>H ⟨g,z⟩;simp[aI,d,b8,bo m,h,C0,B3,jR,b,g,C]
   .simp [aI,d,b8,bo m,h,C0,B3,jR,b,g]
theorem wW(v:∀c ∈ r,∃i:Int,i.natAbs≤999/\c=.int i)(G:Giv s f)(u g:Option D):∀{l:List P}{k:Nat},(∀c ∈ l,l_ c)->k+l.length=r.length->∀{n:SO},(n=.dct s (f.map .p)\/n=.fz (.dct s f))->∀{w:List P},w.length=k->r.length≤1000->∀(j H q:Option D),
  (∃L S,aR (aP [ag 8,ag 9]) (aI E C) (bf (k:Int) l) [qp b,qt r,qp st,qp A,qr 0,u,g,qr 1,j,H,q] [n,.lst (w.map .p)]=some (.rt (.p .non),L,S)) \/
  ∃y m t a o,y.length=l.length/\(∀c ∈ y,∃i:Int,i.natAbs≤999/\c=.int i)/\aR (aP [ag 8,ag 9]) (aI E C) (bf (k:Int) l) [qp b,qt r,qp st,qp A,qr 0,u,g,qr 1,j,H,q] [n,.lst (w.map .p)]=some (.nx,[qp b,qt r,qp st,qp A,qr 0,u,g,qr 1,m,t,a],[o,.lst ((w++y).map .p)])
 | [],k,_,_,n,_,w,_,_,j,H,q=>.inr ⟨[],j,H,q,n,rfl,λ_ h=>(by cases h),by simp[bf,aR]⟩
 |c::l,k,F,M,n,K,w,Q,N,j,H,q=>by
  simp only[bc]at M;have d:r[k]? = some (r[k]'(by lia)):=cK (by lia);unfold bf;rcases Fc (M:=E) (J:=C) (a:=b) (st:=st) (A:=A) (w:=w) G K (F c List.mem_cons_self) d (v _ (gE _)) (by lia) u g q with ⟨L,e⟩|⟨i,J,e⟩
  .exact .inl ⟨_,_,t6 rfl e⟩
  .rcases wW (E:=E) (C:=C) (b:=b) (st:=st) (A:=A) v G u g (l:=l) (k:=k+1) (λx O=>F x (aS _ O)) (by lia) (n:=.fz (.dct s f)) (.inr rfl) (w:=w++[.int i]) (by simp;lia) N (qi (k:Int)) (qp c) (qi i) with ⟨L,S,p⟩|⟨y,m,t,a,o,B,I,p⟩
   .rw [ik]at p;exact .inl ⟨L,S,(bu rfl e).trans p⟩
   .rw [ik]at p;refine .inr ⟨.int i::y,m,t,a,o,by simp[B],λz d=>?_,?_⟩
    .rcases bq.mp d with rfl|d
     .exact⟨i,J,rfl⟩
     .exact I z d
    .rw [show w++.int i::y=w++[.int i]++y by simp];exact(bu rfl e).trans p
theorem Io{T t:List P}{R:Str}{F:P}(Q:lF R T t F){K:List bB}{V:List P}(N:k9 (more F) K V){s:List bB}{f:List P}(G:Giv s f)(O:s.length≤99)(h p z A r:P)(x:Str)(c H:List P)(d u j l y q:Option D) :
  ∃g b,Giv g b/\d_ (fV (bV (az c_ (eV (ab al (vv 2) (vi 3))) (eV (vC (.non))))) (bV (az ma (eV (ab al (ab al (vv 2) (vi 3)) (vi 2))) (eV (vt ""))))) (fw (aa 4) (ab al (ab al (vv 2) (vi 3)) (vi 2)) (ab al (vv 3) (vt "it"))) eO [qp h,qp p,qp (cT x z A F c H r),qp (.dct K V),qr 0,d,u,j,l,y,q] [.dct s (f.map .p)]=some (.nx,[qp h,qp p,qp (cT x z A F c H r),qp (.dct K V),qr 0,d,u,j,l,y,q],[.dct g (b.map .p)]):=by
 rcases Q with rfl|⟨m,a,n,w,_,_,_,_,_,_,rfl⟩
 .exact⟨s,f,G,by simp[oH,c_,de]⟩
 .by_cases E:n=""
  .exact⟨s,f,G,by simp[oH,c_,de,E]⟩
  .obtain⟨i,_,I⟩:=N "it" (by simp[more]);obtain⟨B,C,J,U,e⟩:=wk (o:=aa 4) (k:=ab al (ab al (vv 2) (vi 3)) (vi 2)) (v:=ab al (vv 3) (vt "it")) (L:=[qp h,qp p,qp (cT x z A (.tup [.str m,.str a,.str n,.str w]) c H r),qp (.dct K V),qr 0,d,u,j,l,y,q]) (S:=[.dct s (f.map .p)]) G O (i:=i) (n:=[.dct s (f.map .p)]) (x:=n) (by simp[I]) rfl (by simp[oH]) rfl;refine⟨B,C,J,?_⟩;rw[ka];have M:(fV (bV (az c_ (eV (ab al (vv 2) (vi 3))) (eV (vC (.non))))) (bV (az ma (eV (ab al (ab al (vv 2) (vi 3)) (vi 2))) (eV (vt ""))))) [qp h,qp p,qp (cT x z A (.tup [.str m,.str a,.str n,.str w]) c H r),qp (.dct K V),qr 0,d,u,j,l,y,q] [.dct s (f.map .p)]=some (true,[.dct s (f.map .p)]):=by simp[oH,c_,de,E]
   rw[M];exact e
theorem Im{n:Nat}(hn:6≤n){rs:List P}{z:Str}{q:Nat}{m c a p:List P}(U:Fam rs z q m c a p){N:List P}(hc:CellsOk c N){x:Str}{G J l:P}{d I:List P}{u:P}(Y:Stp z m c a rs G J l d I u){K:List bB}{V:List P}(he:k9 (oS c++more l) K V) :
  ∃j:P,(j=.non\/∃H,CellsOk c H/\j=.tup H)/\pureOf (Ph n "cells_behind") [df z q m c a p,.tup N,cT x G J l d I u,.dct K V]=some j:=by
 obtain⟨n,rfl⟩:=fF (n:=n) (by first|assumption|lia);have hN:∀x ∈ oS c++more l,jG x:=λx hx=>(du.mp hx).elim (nO U.hce.1 x) (m5 l x);have hcl:=Y.cl;have hc3:=U.cl;have hcn:=hc.1;let A:List (Option D):=[qp (df z q m c a p),qt N,qp (cT x G J l d I u),qp (.dct K V),qr 0]
 let Inv:Nat->Lc->aD->Prop:=λi L S=>∃(s:List bB)(f:List P)(C E:Option D),Giv s f/\s.length≤i/\L=A++[C,E,none,none,none,none]/\S=[.dct s (f.map .p)]
 obtain⟨L',S',O,s,f,C,E,W,Z,rfl,rfl⟩:=bw (g:=aP [ag 5,ag 6]) (b:=d8 (Ph (n+1)) (Ph n)) (Inv:=Inv) (s:=d) (k:=0) (L:=A++[none,none,none,none,none,none]) (S:=[.dct [] []]) (λi v L S hv hI=>by obtain⟨s,f,C,E,W,Z,rfl,rfl⟩:=hI;have hi:=aY hv;obtain⟨y,t,_,ht,rfl⟩:=Y.ch v (bH hv);obtain⟨r,er⟩:=nv hN he ht (n:=n+1) (by lia);obtain⟨Q,R,T,h2,e⟩:=wk (o:=aa 4) (k:=vv 5) (v:=ae (pureOf (Ph (n+1) "value_of")) (v2 (vv 6) (vv 3))) (L:=A++[qs y,qp t,none,none,none,none]) (S:=[.dct s (f.map .p)]) W (by lia) (i:=r) (n:=[.dct s (f.map .p)]) (by simp[A,er]) rfl rfl rfl;exact⟨_,_,_,rfl,e,Q,R,_,_,T,by lia,rfl,rfl⟩) ⟨[],[],none,none,⟨by simp,rfl,by simp,λk v h=>by cases h⟩,by simp,rfl,rfl⟩
 simp only[A,qv,fX]at O;obtain⟨gk2,gv2,X,e2⟩:=Io Y.htk (λx hx=>he x (e_ _ hx)) W (by lia) (df z q m c a p) (.tup N) G J u x d I C E none none none none;have B:=wW (E:=Ph (n+1)) (C:=Ph n) (b:=df z q m c a p) (st:=cT x G J l d I u) (A:=.dct K V) hc.2 X C E (l:=c) (k:=0) U.hce.1 (by lia) (.inl rfl) (w:=[]) rfl (by lia) none none none;rw[show((0:Nat):Int)=0 from rfl]at B;rcases B with ⟨L',S',F⟩|⟨M,q8',q9',q10',o,T,h2,F⟩
 .refine⟨.non,.inl rfl,?_⟩;rw[cX,ah];simp only[gB]at F;simp[-ka,bG,mh,CB,O,e2,Fh,F]
 .refine⟨.tup M,.inr ⟨M,⟨T,h2⟩,rfl⟩,?_⟩;rw[cX,ah];simp only[gB,fX]at F;have t1:toP 9 (.ref 1) [o,.lst (M.map .p)]=some (.lst M,[o,.fz (.lst M)]):=eG rfl;simp[-ka,bG,mh,CB,O,e2,Fh,F,t1,bD]
end My
namespace My
open PySem L2 Ev
def je(B:BD)(t:Nat)(y:P):Prop:=∃s r,y=.tup [.tup s,.tup r]/\s.length=t/\(∀a ∈ s,mu a)/\bb B r
structure GS(B:BD)(K:List bB)(V:List P) extends GC B where
 kv:Nat
 hkv:b≤kv
 hk:S0[kv]? = some (.fz (.dct K V))
abbrev FL(i k r:Nat)(hd t m l:P)(d f b c q h:Option D)(x a e s n:Option D):Lc:=[qr i,qp hd,qp t,qr k,qp m,qp l,d,f,b,c,q,h,qr r,x,a,e,s,n]
theorem Mc{B:BD}(O:Pln B.fams B.roads B.wishes)(k:Places B){n:Nat}(Y:3≤n){K:List bB}{V:List P}(hd v:Int){m:Str}(hm:PyData.strOk m=true){t:Nat}(ht:t≤10){f:List P}(has:f.length=t)(W:∀a ∈ f,mu a){p:List P}(hr:bb B p)(E C l:P)(H F A x:Option D){dl:Nat}(hdl:dl≤1){y:P}(hy:CO dl y) :
  ∃T:List P,T.length≤1/\((∀z ∈ T,je B (t+dl) z)/\∀z ∈ T,∃c q r,y=.tup [.tup c,q]/\z=.tup [.tup (f++c),.tup r])/\∀(G:GS B K V)(L:Lc)(S:aD)(w:List P),(∃d j o s,L=FL G.i G.kv G.r (.int hd) E C l d H F A x (qt [.str m,.int v]) (qt f) (qt p) j o s)->Fr G.b G.S0 S->S[G.r]? = some (.lst (w.map .p))->w.length+1≤1000 ->
   ∃L1 L2 u,aP [ag 15,ag 16] y L=some L1/\eK (Ph n) (Ph (n-1)) L1 S=some (.nx,L2,u)/\(∃d j o s,L2=FL G.i G.kv G.r (.int hd) E C l d H F A x (qt [.str m,.int v]) (qt f) (qt p) j o s)/\Fr G.b G.S0 u/\u[G.r]? = some (.lst ((w++T).map .p)):=by
 obtain⟨c,I,rfl,hbl,X,hti⟩:=hy;obtain⟨ans,R,ep⟩:=Br O k Y hd v hm hti hr;have N:=gA (xs:=f) (c:=c) (by lia);rcases R with rfl|⟨r,Z,rfl⟩
 .refine⟨[],by simp,⟨λ_ h=>(by cases h),λ_ h=>(by cases h)⟩,λG L S w J Q U hM=>?_⟩;obtain⟨d,j,o,s,rfl⟩:=J;obtain⟨u,e,i⟩:=Ay (b:=G.b) (g:=Ph n "posted") (q:=ac (aa 0) (ac (aa 14) (ac (aa 1) (ac (aa 16) (ac (aa 11) ba))))) (L:=FL G.i G.kv G.r (.int hd) E C l d H F A x (qt [.str m,.int v]) (qt f) (qt p) (qt c) (ql I) s) (S:=S) (l:=[.ref G.i,.p (.tup p),.p (.int hd),.p (.lst I),.p (.tup [.str m,.int v])]) rfl (ep G.b G.i S (G.bd.fr Q)) (Fr.refl _ _);refine⟨FL G.i G.kv G.r (.int hd) E C l d H F A x (qt [.str m,.int v]) (qt f) (qt p) (qt c) (ql I) s,FL G.i G.kv G.r (.int hd) E C l d H F A x (qt [.str m,.int v]) (qt f) (qt p) (qt c) (ql I) (qp .non),u,rfl,?_,⟨_,_,_,_,rfl⟩,Q.trans i,?_⟩
  .refine (aj (e:=FL G.i G.kv G.r (.int hd) E C l d H F A x (qt [.str m,.int v]) (qt f) (qt p) (qt c) (ql I) (qp .non)) (b:=u) ?_).trans ?_
   .rw [cq,jQ,e];rfl
   .simp [c_,de]
  .rw [List.append_nil];exact i.hi _ _ (aM G.le G.hr) U
 .refine⟨[.tup [.tup (f++c),.tup r]],by simp,⟨λz hz=>⟨f++c,r,by simpa using hz,by rw[cJ];lia,λa ha=>(du.mp ha).elim (W a) (X a),Z⟩,λz hz=>⟨c,_,r,rfl,by simpa using hz⟩⟩,λG L S w J Q U hM=>?_⟩;obtain⟨d,j,o,s,rfl⟩:=J;obtain⟨u,e,i⟩:=Ay (b:=G.b) (g:=Ph n "posted") (q:=ac (aa 0) (ac (aa 14) (ac (aa 1) (ac (aa 16) (ac (aa 11) ba))))) (L:=FL G.i G.kv G.r (.int hd) E C l d H F A x (qt [.str m,.int v]) (qt f) (qt p) (qt c) (ql I) s) (S:=S) (l:=[.ref G.i,.p (.tup p),.p (.int hd),.p (.lst I),.p (.tup [.str m,.int v])]) rfl (ep G.b G.i S (G.bd.fr Q)) (Fr.refl _ _);have M:=i.hi _ _ (aM G.le G.hr) U;refine⟨FL G.i G.kv G.r (.int hd) E C l d H F A x (qt [.str m,.int v]) (qt f) (qt p) (qt c) (ql I) s,FL G.i G.kv G.r (.int hd) E C l d H F A x (qt [.str m,.int v]) (qt f) (qt p) (qt c) (ql I) (qt r),u.set G.r (.lst ((w++[P.tup [.tup (f++c),.tup r]]).map .p)),rfl,?_,⟨_,_,_,_,rfl⟩,(Q.trans i).set G.le G.hr _,hR M⟩;refine(aj (e:=FL G.i G.kv G.r (.int hd) E C l d H F A x (qt [.str m,.int v]) (qt f) (qt p) (qt c) (ql I) (qt r)) (b:=u) ?_).trans ?_
  .rw [cq,jQ,e];rfl
  .rw [ka];have hc:(bV (az c_ (aa 17) (eV (vC .non)))) (FL G.i G.kv G.r (.int hd) E C l d H F A x (qt [.str m,.int v]) (qt f) (qt p) (qt c) (ql I) (qt r)) u=some (true,u):=by simp[c_,de]
   rw[hc,au,if_pos rfl];exact jD rfl M (by simp[N]) M (by lia)
theorem Mb{B:BD}(O:Pln B.fams B.roads B.wishes)(k:Places B){n:Nat}(Y:4≤n){K:List bB}{V:List P}{hd:Nat}{I:Str}{E:Nat}{H p C A:List P}(J:Fam B.roads I E H p C A)(U:(aq B.fams)[hd]? = some (df I E H p C A)){l:List P}(hw:l.length=C.length)(Q:∀w ∈ l,mu w){h s:Str}
  (hc:(h="who"/\P.str s ∈ C)\/((h="all"\/h="any")/\∃r ∈ B.roads,rA r=I/\s=rB r)) (v:Int) {m:Str} (hm:PyData.strOk m=true) {t:Nat} (ht:t≤10) (sn rd:P) (q7 q8:Option D) {W:List P} (hW:∀y ∈ W,je B t y) (hWn:W.Pairwise Co) :
  ∃(j:List P)(dl:Nat),dl≤1/\j.length≤4 * W.length/\((∀z ∈ j,je B (t+dl) z)/\j.Pairwise Co)/\∀(G:GS B K V)(L:Lc)(S:aD)(N:List P),(∃X o F d u i,L=FL G.i G.kv G.r (.int (hd:Int)) sn rd (.tup l) X q7 q8 (qs h) (qs s) (qt [.str m,.int v]) o F d u i)->Fr G.b G.S0 S->S[G.r]? = some (.lst (N.map .p))->N.length+4 * W.length≤1000 ->
   ∃L' S',aR (aP [ag 13,ag 14]) (di (Ph n) (Ph (n-1))) W L S=some (.nx,L',S')/\(∃X o F d u i,L'=FL G.i G.kv G.r (.int (hd:Int)) sn rd (.tup l) X q7 q8 (qs h) (qs s) (qt [.str m,.int v]) o F d u i)/\Fr G.b G.S0 S'/\S'[G.r]? = some (.lst ((N++j).map .p)):=by
 obtain⟨tg,dl,hdl,h1,⟨h2,h2n⟩,h3⟩:=tg_ok O Y J U hw Q hc;obtain⟨f,f1,f2,f3⟩:=kg (m:=GS B K V) (c:=4) (M:=1000) (g:=aP [ag 13,ag 14]) (b:=di (Ph n) (Ph (n-1))) (s:=W) (Sp:=fun G S=>Fr G.b G.S0 S) (r:=fun G=>G.r) (R:=fun x j=>(∀z ∈ j,je B (t+dl) z)/\j.Pairwise Co/\∀z ∈ j,∃T bs q rs,x=.tup [.tup T,q]/\T.length=t/\z=.tup [.tup (T++bs),rs]) (p:=fun G L=>∃X o F d u i,L=FL G.i G.kv G.r (.int (hd:Int)) sn rd (.tup l) X q7 q8 (qs h) (qs s) (qt [.str m,.int v]) o F d u i) (fun x hx=>by
  obtain⟨T,rs,rfl,ha1,ha2,hr⟩:=hW x hx;obtain⟨g,k1,k2,k3⟩:=kg (m:=GS B K V) (c:=1) (M:=1000) (g:=aP [ag 15,ag 16]) (b:=eK (Ph n) (Ph (n-1))) (s:=tg) (Sp:=λG S=>Fr G.b G.S0 S) (r:=λG=>G.r) (R:=λy j=>j.length≤1/\(∀z ∈ j,je B (t+dl) z)/\∀z ∈ j,∃bs q rs',y=.tup [.tup bs,q]/\z=.tup [.tup (T++bs),.tup rs']) (p:=λG L=>∃X d u i,L=FL G.i G.kv G.r (.int (hd:Int)) sn rd (.tup l) X q7 q8 (qs h) (qs s) (qt [.str m,.int v]) (qt T) (qt rs) d u i)
   (λy Z=>by obtain⟨j,l1,l2,l3⟩:=Mc O k (n:=n) (K:=K) (V:=V) (by lia) (hd:Int) v hm ht ha1 ha2 hr sn rd (.tup l) q7 q8 (qs h) (qs s) hdl (h2 y Z);exact⟨j,l1,⟨l1,l2⟩,l3⟩)
  refine⟨tg.flatMap g,by lia,⟨λz hz=>?_,iw.mpr ⟨λy Z=>?_,h2n.imp_of_mem λ{a b} ha hb hab x hx y Z cs cs' q q' e e' z=>?_⟩,λz hz=>?_⟩,λG L S N hLp fr hS hM=>?_⟩
  .obtain⟨y,Z,hz⟩:=cw.mp hz;exact(k2 y Z).2.1 z hz
  .have:=(k2 y Z).1;match hq:g y with
   | []=>exact .nil
   | [_]=>exact List.pairwise_singleton ..
   |_::_::_=>rw[hq]at this;simp at this
  .obtain⟨bs1,q1,r1,ea,rfl⟩:=(k2 a ha).2.2 x hx;obtain⟨bs2,q2,r2,eb,rfl⟩:=(k2 b hb).2.2 y Z;simp only[P.tup.injEq,bN,cD]at e e';exact hab bs1 bs2 q1 q2 ea eb (List.append_cancel_left (e.1.trans (z.trans e'.1.symm)))
  .obtain⟨y,Z,hz⟩:=cw.mp hz;obtain⟨bs,q,r',_,rfl⟩:=(k2 y Z).2.2 z hz;exact⟨T,bs,_,_,rfl,ha1,rfl⟩
  obtain⟨X,o,F,d,u,i,rfl⟩:=hLp;obtain⟨S1,e1,fr1⟩:=h3 G.b G.i S (G.bd.fr fr);obtain⟨S2,e2,fr2⟩:=Ay (b:=G.b) (g:=Ph n "targets_of") (q:=ac (aa 0) (ac (aa 1) (ac (aa 9) (ac (aa 10) (ac (aa 5) ba))))) (L:=FL G.i G.kv G.r (.int (hd:Int)) sn rd (.tup l) X q7 q8 (qs h) (qs s) (qt [.str m,.int v]) (qt T) (qt rs) d u i) (S:=S) (l:=[.ref G.i,.p (.int (hd:Int)),.p (.str h),.p (.str s),.p (.tup l)]) rfl e1 fr1;obtain⟨L',S',e3,hL',fr3,h4⟩:=k3 G _ S2 N ⟨X,d,u,i,rfl⟩ (fr.trans fr2) (fr2.hi _ _ (aM G.le G.hr) hS) (by lia);obtain⟨d6',q15',q16',q17',rfl⟩:=hL';refine⟨FL G.i G.kv G.r (.int (hd:Int)) sn rd (.tup l) X q7 q8 (qs h) (qs s) (qt [.str m,.int v]) (qt T) (qt rs) d u i,FL G.i G.kv G.r (.int (hd:Int)) sn rd (.tup l) d6' q7 q8 (qs h) (qs s) (qt [.str m,.int v]) (qt T) (qt rs) q15' q16' q17',S',rfl,?_,⟨_,_,_,_,_,_,rfl⟩,fr3,h4⟩;unfold di;rw[bC,d6,e2];exact e3)
 refine⟨W.flatMap f,dl,hdl,f1,⟨λz hz=>?_,iw.mpr ⟨λx hx=>(f2 x hx).2.1,hWn.imp_of_mem λ{a b} ha hb hab x hx y Z T as' q q' e e' z=>?_⟩⟩,f3⟩
 .obtain⟨x,hx,hz⟩:=cw.mp hz;exact(f2 x hx).1 z hz
 .obtain⟨as1,bs1,q1,r1,ea,l1,rfl⟩:=(f2 a ha).2.2 x hx;obtain⟨as2,bs2,q2,r2,eb,l2,rfl⟩:=(f2 b hb).2.2 y Z;simp only[P.tup.injEq,bN,cD]at e e';refine hab as1 as2 q1 q2 ea eb (List.append_inj (e.1.trans (z.trans e'.1.symm)) (by lia)).1
theorem yC(r:Fr b x S)(e:b≤x.length)(h:ku x S d W):∃a,toP 9 d (S++[.lst []])=some (.lst W,a)/\Fr b x a/\a[S.length]? = some (.lst []):=by
 have f:=r.trans (Fr.app b S [.lst []]);rcases h with rfl|⟨k,s,rfl,h⟩
 .exact⟨_,by simp,f,gy _ _⟩
 .have l:=h.lt;refine⟨_,(h.fr (Fr.app b S [.lst []])).frz,f.set e s _,?_⟩;rw[a6 (by lia)];exact gy _ _
section
variable{B:BD}(O:Pln B.fams B.roads B.wishes)(k:Places B){n:Nat}(Y:5≤n){K:List bB}{V:List P}{hd:Nat}{I:Str}{E:Nat}{H p C A:List P}(J:Fam B.roads I E H p C A)(U:(aq B.fams)[hd]? = some (df I E H p C A)){l:List P}(hw:l.length=C.length)(Q:∀w ∈ l,mu w){N:List P}(s:∀x ∈ N,jG x)(a:k9 N K V)
include O k Y J U hw Q s a
theorem Lg(h X:P):∀{A:List P},(∀c ∈ A,ke I B.roads C N c)->∀{t:Nat},t+A.length≤10->∀{W:List P},(∀y ∈ W,je B t y)->W.Pairwise Co->4 ^ A.length * W.length≤900 ->
  ∃(ys:List P)(T:Nat),T≤t+A.length/\ys.length≤4 ^ A.length * W.length/\((∀y ∈ ys,je B T y)/\ys.Pairwise Co/\(A=[]->ys=W))/\∀(b i:Nat)(o S:aD)(u:Nat)(H:D)(q7 q8 q9 q10 F z e f p d w:Option D),Bd B b i o->b≤u->o[u]? = some (.fz (.dct K V))->Fr b o S->ku o S H W ->
   ∃L' S' d',aR (aP [ag 7,ag 8,ag 9,ag 10]) (eJ (Ph n) (Ph (n-1))) A [qr i,qi (hd:Int),qp h,qr u,qp X,qt l,some H,q7,q8,q9,q10,F,z,e,f,p,d,w] S=some (.nx,L',S')/\L'[6]? = some (some d')/\Fr b o S'/\ku o S' d' ys
 | [],_,t,_,W,hW,Z,_=>⟨W,t,by simp,by simp,⟨hW,Z,λ_=>rfl⟩,λb i o S u H q7 q8 q9 q10 F z e f p d w _ _ _ fr ha=>⟨_,S,H,rfl,rfl,fr,ha⟩⟩
 |c::A,hs,t,ht,W,hW,Z,Y=>by
  simp only[bc]at ht;rw[bc,Nat.pow_succ,Nat.mul_assoc]at Y;have h4:4 * W.length≤900:=aM (Nat.le_mul_of_pos_left _ (Nat.pow_pos (by decide))) Y;obtain⟨m,tr,j,g,hm,_,hsum,hcw,rfl⟩:=hs c List.mem_cons_self;obtain⟨v,ev⟩:=nv s a hsum (n:=n) (by lia);obtain⟨ys,dl,hdl,h1,⟨h2,h2n⟩,h3⟩:=Mb O k (n:=n) (by lia) (K:=K) (V:=V) J U hw Q hcw v hm (t:=t) (by lia) h X (qs m) (qp tr) hW Z;obtain⟨zs,T,hT,k1,⟨k2,k2n,_⟩,k3⟩:=Lg h X (A:=A) (λx hx=>hs x (aS _ hx)) (t:=t+dl) (by lia) (W:=ys) h2 h2n (aM (Nat.mul_le_mul_left _ h1) Y);refine⟨zs,T,by simp only[bc];lia,?_,⟨k2,k2n,λq=>(by cases q)⟩,λb i o S u H q7 q8 q9 q10 F z e f p d w hB hkv hk fr ha=>?_⟩
  .rw [bc,Nat.pow_succ,Nat.mul_assoc];exact aM k1 (Nat.mul_le_mul_left _ h1)
  .obtain⟨S1,e1,fr1,hS1⟩:=yC fr hB.le ha;obtain⟨L2,S2,e2,⟨d6',E,G,L,M,R,rfl⟩,fr2,hS2⟩:=h3 { b:=b,i:=i,S0:=o,r:=S.length,bd:=hB,hr:=fr.len,kv:=u,hkv:=hkv,hk:=hk } (FL i u S.length (.int (hd:Int)) h X (.tup l) (some H) (qs m) (qp tr) (qs j) (qs g) (qt [.str m,.int v]) e f p d w) S1 [] ⟨_,_,_,_,_,_,rfl⟩ fr1 hS1 (by simp;lia);obtain⟨L',S',d',e3,h5,fr3,ha3⟩:=k3 b i o S2 u (.ref S.length) (qs m) (qp tr) (qs j) (qs g) (qt [.str m,.int v]) (qr S.length) E G L M R hB hkv hk fr2 (.inr ⟨S.length,fr.len,rfl,.inl hS2⟩);refine⟨L',S',d',?_,h5,fr3,ha3⟩;refine(bu (y:=[qr i,qi (hd:Int),qp h,qr u,qp X,qt l,some H,qs m,qp tr,qs j,qs g,F,z,e,f,p,d,w]) rfl ?_).trans e3;have tv:toP 9 (.ref u) S=some (.dct K V,S):=by
    have:=fr.hi _ _ hkv hk;simp[toP,this]
   unfold eJ;refine(aj (e:=[qr i,qi (hd:Int),qp h,qr u,qp X,qt l,some H,qs m,qp tr,qs j,qs g,qt [.str m,.int v],z,e,f,p,d,w]) (b:=S) ?_).trans ?_
   .simp [tv,ev]
   refine(aj (e:=FL i u S.length (.int (hd:Int)) h X (.tup l) (some H) (qs m) (qp tr) (qs j) (qs g) (qt [.str m,.int v]) e f p d w) (b:=S++[.lst []]) ?_).trans ?_
   .simp
   refine(aj (e:=FL i u S.length (.int (hd:Int)) h X (.tup l) d6' (qs m) (qp tr) (qs j) (qs g) (qt [.str m,.int v]) E G L M R) (b:=S2) ?_).trans ?_
   .rw [bC,d6];show aG (aG (toP 9 H (S++[.lst []])) _) _=_;rw[e1];exact e2
   .rfl
theorem GU(E:∀c ∈ m,ke I B.roads C N c)(p:m.length≤3)(D:bb B u) :
  ∃(x:List P)(T:Nat),x.length≤64/\((∀y ∈ x,je B T y)/\x.Pairwise Co/\(m=[]->x=[.tup [.tup [],.tup u]]))/\∀(b i:Nat)(S:aD)(v:Nat),Bd B b i S->b≤v->S[v]? = some (.fz (.dct K V)) ->
   ∃d f,Ph (n+1) "sendings" [.ref i,.p (.int (hd:Int)),.p (.lst m),.ref v,.p (.tup u),.p (.tup l)] S=some (d,f)/\Fr b S f/\ku S f d x:=by
 have M:4 ^ m.length≤64:=by have:=Nat.pow_le_pow_right (show 0 < 4 by decide) p;simpa using this
 obtain⟨x,T,_,g,j,z⟩:=Lg O k Y J U hw Q s a (.lst m) (.tup u) E (t:=0) (by lia) (W:=[.tup [.tup [],.tup u]]) (λy G=>⟨[],u,by simpa using G,by simp,λ_ h=>(by cases h),D⟩) (by simp) (by simp;lia);simp only[List.length_singleton,Nat.mul_one]at g;refine⟨x,T,by lia,j,λb i S v H r A=>?_⟩
 .obtain⟨L,f,q,e,o,w,F⟩:=z b i S S v (.p (.lst [.tup [.tup [],.tup u]])) none none none none none none none none none none none H r A (Fr.refl _ _) (.inl rfl);refine⟨q,f,?_,w,F⟩;obtain⟨n,rfl⟩:=Mz (n:=n) (by first|assumption|lia);rw[gm];simp only[j7]at e;simp[cL,dS,e,o]
end
def hY(f x:P):Prop:=∃I E H p C A,f=df I E H p C A/\∃(r:Nat)(c l:List P),x=.tup [.int (r:Int),.tup c,.tup l]/\r < H.length/\CellsOk p c/\l.length=C.length/\∀w ∈ l,mu w
structure StL(B:BD)(hs rds:List P):Prop where
 hl:hs.length=(aq B.fams).length
 hh:∀(k:Nat) f x,(aq B.fams)[k]? = some f->hs[k]? = some x->hY f x
 hr:bb B rds
def ph(B:BD)(st:P):Prop:=∃h u,st=.tup [.tup h,.tup u]/\StL B h u
def vA(s:List P)(hd:Nat)(x:Str)(y h w:P):P:=match w with
 | .tup [.tup a,.tup r]=>.tup [.tup [.str "step",.int (hd:Int),.str x,y,.tup a],.tup [.tup (s.set hd h),.tup r]]
 |_=>.non
def ye(s:List P)(hd:Nat)(x:Str)(y:P)(o:Option P)(W:List P):List P:=match o with
 |some h=>W.map (vA s hd x y h)
 |none=>[]
def zo(n:Nat)(f:P)(H p s l:List P)(step r:P):Option P:=match pureOf (Ph n "cells_behind") [f,.tup s,step,.dct (cd p) s] with
 |some (.tup c)=>some (.tup [.int (((i0 H r).getD 0:Nat):Int),.tup c,.tup l])
 |_=>none
abbrev SL(i:Nat)(st hd step y f r:P)(n k b q h x a e s:Option D):Lc:=[qr i,qp st,qp hd,qp step,qp y,qp f,qp r,n,k,b,q,h,x,a,e,s]
theorem E5{p:List P}{K:List bB}{V:List P}(a:k9 (oS p) K V){n:List bB}{f:List P}{z:Int}(c:z.natAbs≤999)(h:∀k,bI k n f=if (.inr "it":bB)=k then some (.int z) else bI k K V):k9 (oS p++[.str "it"]) n f:=λx s=>by
 by_cases q:("it":Str)=x
 .exact⟨z,c,by rw[h,if_pos (by rw[q])]⟩
 .rcases du.mp s with s|s
  .obtain⟨i,b,e⟩:=a x s;exact⟨i,b,by rw[h,if_neg λw=>q (i6 w)];exact e⟩
  .exact absurd (P.str.inj (fY.mp s)).symm q
theorem GR{B:BD}(O:Pln B.fams B.roads B.wishes){n:Nat}(Y:2≤n){hd:Nat}{I:Str}{E:Nat}{H p C A:List P}(J:Fam B.roads I E H p C A){v:List P}(W:CellsOk p v){u:List P}(hr:bb B u){M y:P}(ht:lF I B.roads C M)(hy:(M=.non/\y=.non)\/(M≠.non/\uK B u hd y)) :
  ∃(K:List bB)(V w:List P),k9 (oS p++more M) K V/\(bb B w/\(M=.non->K=cd p/\V=v/\w=u))/\∀(b i:Nat)(S:aD)(st step f r:P)(o F d x a c t:Option D),Bd B b i S->∃U,
   d_ (bV (az c_ (aa 4) (eV (vC (.non))))) (af (am 11 (vD (dM (aT Att) (aa 0) "places") (v2 (ab al (vv 4) (vi 0)) (vv 2))))
    (af (fw (aa 10) (vt "it") (ab al (ab al (ab al (vv 9) (vv 11)) (ab al (vv 4) (vi 1))) (vi 1)))
    (am 9 (eV (ae (pureOf (Ph n "replaced")) (v3 (vv 9) (vv 11) (ae (pureOf (Ph n "without")) (v2 (ab al (vv 9) (vv 11)) (ab al (vv 4) (vi 1)))))))))) eO
    (SL i st (.int (hd:Int)) step y f r o F (qt u) (qr S.length) d x a c t) (S++[.dct (cd p) (v.map .p)])=some (.nx,SL i st (.int (hd:Int)) step y f r o F (qt w) (qr S.length) U x a c t,S++[.dct K (V.map .p)]):=by
 have G:=rj W;rcases hy with ⟨rfl,rfl⟩|⟨L,s,g,k,N,rfl,hg,hk,T,j,hsp⟩
 .exact⟨cd p,v,u,by simpa[more] using G,⟨hr,λ_=>⟨rfl,rfl,rfl⟩⟩,λb i S st step f r o F d x a c t hB=>⟨d,by simp[c_,de]⟩⟩
 .have hm:more M=[.str "it"]:=by
   cases M with
   |non=>exact absurd rfl L
   |_=>rfl
  have hls3:=j.1;have Q:N[g]? = some N[g]:=cK hsp;obtain⟨m,z,_,hz,hzl⟩:=j.2 N[g] (gE _);rw[hzl]at Q;have Z:(cd p).length=v.length:=by rw[W.1];simp[cd]
  obtain⟨K,V,e,h1,h2,h3,h4,h5⟩:=r_ (.inr "it") (.int z) (cd p) v (jd J.hce) Z;have ew:=Cv Y (xs:=N) (k:=g) (by lia);have hpl:=oG O;have hrl:=hr.1;have er:=nH Y (xs:=u) (k:=k) hk (by lia) (.tup (N.eraseIdx g));have hcl:=J.cl;have R:(cd p).length≤1000000:=by have:=W.1;lia
  refine⟨K,V,u.set k (.tup (N.eraseIdx g)),by rw[hm];exact E5 G hz h5,⟨hr.set k ⟨aM (List.length_eraseIdx_le ..) j.1,λl h=>j.2 l (List.mem_of_mem_eraseIdx h)⟩,λq=>absurd q L⟩,λb i S st step f r o F d x a c t hB=>⟨qi (k:Int),?_⟩⟩;obtain⟨jh,jp,jl,jm,mk,mv,h⟩:=hB.fr (Fr.app b S [.dct (cd p) (v.map .p)]);rw[ka];have X:(bV (az c_ (aa 4) (eV (vC (.non))))) (SL i st (.int (hd:Int)) step (.tup [.int (s:Int),.int (g:Int)]) f r o F (qt u) (qr S.length) d x a c t) (S++[.dct (cd p) (v.map .p)])=some (true,S++[.dct (cd p) (v.map .p)]):=by simp[c_,de]
  rw[X,au,if_pos rfl];refine(aj (e:=SL i st (.int (hd:Int)) step (.tup [.int (s:Int),.int (g:Int)]) f r o F (qt u) (qr S.length) (qi (k:Int)) x a c t) (b:=S++[.dct (cd p) (v.map .p)]) ?_).trans ?_
  .rw [cq,wN,h.places rfl];simp[iG,h.pl,cn,b8,hg]
  refine(aj (e:=SL i st (.int (hd:Int)) step (.tup [.int (s:Int),.int (g:Int)]) f r o F (qt u) (qr S.length) (qi (k:Int)) x a c t) (b:=S++[.dct K (V.map .p)]) ?_).trans ?_
  .have e2:oR (aa 10) (vt "it") (ab al (ab al (ab al (vv 9) (vv 11)) (ab al (vv 4) (vi 1))) (vi 1)) (SL i st (.int (hd:Int)) step (.tup [.int (s:Int),.int (g:Int)]) f r o F (qt u) (qr S.length) (qi (k:Int)) x a c t) (S++[.dct (cd p) (v.map .p)])=some (.nx,SL i st (.int (hd:Int)) step (.tup [.int (s:Int),.int (g:Int)]) f r o F (qt u) (qr S.length) (qi (k:Int)) x a c t,S++[.dct K (V.map .p)]):=by
    simp[oR,bo T,bo Q,jF,b8,jd J.hce,R,e]
   unfold fw;rw[e2]
  .simp [bo T,ew,er]
theorem GQ{B:BD}(O:Pln B.fams B.roads B.wishes)(k:Places B){n:Nat}(Y:8≤n){hd:Nat}{I:Str}{E:Nat}{H p C A:List P}(J:Fam B.roads I E H p C A)(U:(aq B.fams)[hd]? = some (df I E H p C A)){r:Nat}{cs l:List P}(hr1:r < H.length)(hcs:CellsOk p cs)(hwl:l.length=C.length)(Q:∀w ∈ l,mu w){u:List P}(hrd:bb B u){x:Str}(hx:PyData.strOk x=true){rm wh tk:P}{chg sn:List P}{rm2:P}(hSt:Stp I H p C B.roads rm wh tk chg sn rm2){y:P}(hy:(tk=.non/\y=.non)\/(tk≠.non/\uK B u hd y)) :
  ∃(o:Option P)(W:List P),W.length≤64/\((∀h',o=some h'->hY (df I E H p C A) h')/\(∃T,∀w ∈ W,je B T w)/\W.Pairwise Co/\(tk=.non->o=zo (n-1) (df I E H p C A) H p cs l (cT x rm wh tk chg sn rm2) rm2/\(sn=[]->W=[.tup [.tup [],.tup u]])))/\∀{F:List P},StL B F u->F[hd]? = some (.tup [.int (r:Int),.tup cs,.tup l])->∀(b i:Nat)(S:aD),Bd B b i S->∃d S',Ph n "step_ends" [.ref i,.p (.tup [.tup F,.tup u]),.p (.int (hd:Int)),.p (cT x rm wh tk chg sn rm2),.p y] S=some (d,S')/\Fr b S S'/\ku S S' d (ye F hd x y o W):=by
 obtain⟨n,rfl⟩:=fF (n:=n) (by first|assumption|lia);obtain⟨K,V,N,a,⟨hr',hown⟩,eit⟩:=GR O (n:=n+1) (by lia) J hcs hrd hSt.htk hy;obtain⟨ans,hans,ecb⟩:=Im (n:=n+1) (by lia) J hcs (x:=x) hSt a;have hy2:(tk=.non/\y=.non)\/(tk≠.non/\nU y):=by
  rcases hy with h|⟨h1,m,sp,_,_,e,_⟩
  .exact .inl h
  .exact .inr ⟨h1,m,sp,e⟩
 obtain⟨R,hwl',⟨hwi',hwo⟩,ewb⟩:=Gf (n:=n+1) (by lia) J hwl Q hSt.htk hy2;have s:∀x ∈ oS p++more tk,jG x:=λx hx=>(du.mp hx).elim (nO J.hce.1 x) (m5 tk x);obtain⟨W,T,hW1,⟨hW2,hWn,hWe⟩,esd⟩:=GU O k (n:=n) (by lia) J U hwl' hwi' s a hSt.hsn hSt.sl hr';let step:P:=cT x rm wh tk chg sn rm2
 let t:P:=df I E H p C A
 have pre:∀{F:List P},F[hd]? = some (.tup [.int (r:Int),.tup cs,.tup l])->∀(b i:Nat) (S:aD),Bd B b i S->∃X,∀g:ES,(af (am 5 (dB (mT Tb (Ph (n+1))) (aa 0) "family_of" (ac (aa 2) ba)))
   (af (tj (aP [ag 6,ag 7,ag 8]) (ab al (ab al (vv 1) (vi 0)) (vv 2)))
   (af (am 9 (eV (ab al (vv 1) (vi 1))))
   (af (am 10 (f6 (Ph (n+1) "values_of") (ac (aa 5) (ac (aa 7) ba))))
   (af (d_ (bV (az c_ (aa 4) (eV (vC (.non))))) (af (am 11 (vD (dM (aT Att) (aa 0) "places") (v2 (ab al (vv 4) (vi 0)) (vv 2))))
    (af (fw (aa 10) (vt "it") (ab al (ab al (ab al (vv 9) (vv 11)) (ab al (vv 4) (vi 1))) (vi 1)))
    (am 9 (eV (ae (pureOf (Ph (n+1) "replaced")) (v3 (vv 9) (vv 11) (ae (pureOf (Ph (n+1) "without")) (v2 (ab al (vv 9) (vv 11)) (ab al (vv 4) (vi 1)))))))))) eO) g)))))
   [qr i,qt [.tup F,.tup u],qi (hd:Int),qp step,qp y,none,none,none,none,none,none,none,none,none,none,none] S=g (SL i (.tup [.tup F,.tup u]) (.int (hd:Int)) step y t (.int (r:Int)) (qt cs) (qt l) (qt N) (qr S.length) X none none none none) (S++[.dct K (V.map .p)]):=λ{F} hhx b i S hB=>by
  have ef:=vw (n:=n+1) (by lia) hB U;obtain⟨X,e5⟩:=eit b i S (.tup [.tup F,.tup u]) step t (.int (r:Int)) (qt cs) (qt l) none none none none none hB;obtain⟨jh,jp,jl,jm,mk,mv,h⟩:=hB;refine⟨X,λg=>?_⟩;refine(aj (e:=[qr i,qt [.tup F,.tup u],qi (hd:Int),qp step,qp y,qp t,none,none,none,none,none,none,none,none,none,none]) (b:=S) ?_).trans ?_
  .rw [cq,h.meth rfl (IW _) I0 (l:=[.p (.int (hd:Int))]) (by simp),ef];rfl
  refine(aj (e:=SL i (.tup [.tup F,.tup u]) (.int (hd:Int)) step y t (.int (r:Int)) (qt cs) (qt l) none none none none none none none) (b:=S) ?_).trans ?_
  .simp [bo hhx]
  refine(aj (e:=SL i (.tup [.tup F,.tup u]) (.int (hd:Int)) step y t (.int (r:Int)) (qt cs) (qt l) (qt u) none none none none none none) (b:=S) ?_).trans ?_
  .simp
  refine(aj (e:=SL i (.tup [.tup F,.tup u]) (.int (hd:Int)) step y t (.int (r:Int)) (qt cs) (qt l) (qt u) (qr S.length) none none none none none) (b:=S++[.dct (cd p) (cs.map .p)]) ?_).trans ?_
  .rw [cq,xX];show aG (aG (some ([D.p t,D.p (.tup cs)],S)) _) _=_;rw[au,vW (n:=n+1) (by lia) J hcs S];rfl
  exact aj e5
 have tv:∀S:aD,toP 9 (.ref S.length) (S++[.dct K (V.map .p)])=some (.dct K V,S++[.fz (.dct K V)]):=λS=>by have:ri (toP 8) (V.map .p) (S++[.dct K (V.map .p)])=some (V,S++[.dct K (V.map .p)]):=kJ ..;simp[toP,this]
 rcases hans with rfl|⟨v,hcs',rfl⟩
 .refine⟨none,W,hW1,⟨λ_ h=>(by cases h),⟨T,hW2⟩,hWn,λq=>⟨?_,λq2=>by rw[hWe q2,(hown q).2.2]⟩⟩,λ{F} hS hhx b i S hB=>⟨.p (.lst []),S++[.fz (.dct K V)],?_,Fr.app _ _ _,.inl rfl⟩⟩
  .obtain⟨rfl,rfl,rfl⟩:=hown q;unfold zo;rw[show n+2-1=n+1 from rfl,ecb]
  obtain⟨X,ep⟩:=pre hhx b i S hB;rw[eB];show(match bL _ _ [qr i,qt [.tup F,.tup u],qi (hd:Int),qp step,qp y,none,none,none,none,none,none,none,none,none,none,none] S with|some (.rt d,_,S')=>some (d,S')|some (.nx,_,S')=>some (.p .non,S')|_=>none)=_;unfold bL;rw[ep];simp only[t,step]at ecb ⊢;simp[tv,ecb,pS,de]
 .obtain⟨j,hj,ej⟩:=nX (xs:=H) (s:=rm2) (λz hz=>(J.hro z hz).ok 19) hSt.h2;have h4:=eT O;have hW3:∀w ∈ W,∃as rs,w=.tup [.tup as,.tup rs]:=λw hw=>by
   obtain⟨as,rs,e,_⟩:=hW2 w hw;exact⟨as,rs,e⟩
  refine⟨some (.tup [.int (j:Int),.tup v,.tup R]),W,hW1,⟨λh' e=>(by cases e;exact⟨I,E,H,p,C,A,rfl,j,v,R,rfl,hj,hcs',hwl',hwi'⟩),⟨T,hW2⟩,hWn,λq=>⟨?_,λq2=>by rw[hWe q2,(hown q).2.2]⟩⟩,λ{F} hS hhx b i S hB=>?_⟩
  .obtain⟨rfl,rfl,rfl⟩:=hown q;unfold zo;rw[show n+2-1=n+1 from rfl,ecb,ej,hwo q];rfl
  have hhd:hd < F.length:=by rw[hS.hl];exact aY U
  have hsl:=hS.hl;have er:=nH (n:=n+1) (by lia) (xs:=F) (k:=hd) hhd (by lia) (.tup [.int (j:Int),.tup v,.tup R]);generalize hhs:F.set hd (.tup [.int (j:Int),.tup v,.tup R])=Z at er;show ∃d S',_/\_/\ku S S' d (W.map (vA F hd x y (.tup [.int (j:Int),.tup v,.tup R])));have hfm:W.map (vA F hd x y (.tup [.int (j:Int),.tup v,.tup R]))=W.flatMap λw=>[vA F hd x y (.tup [.int (j:Int),.tup v,.tup R]) w]:=by rw[List.flatMap_def,List.map_eq_flatMap,List.flatMap_def]
  rw[hfm];obtain⟨h1,h3⟩:=dJ (i:=GC B) (f:=λw=>[vA F hd x y (.tup [.int (j:Int),.tup v,.tup R]) w]) (g:=aP [ag 14,ag 15]) (b:=fG (Ph (n+1)) (Ph n)) (Sp:=λG S=>Fr G.b G.S0 S) (r:=λG=>G.r) (c:=1) (M:=1000) (s:=W)
   (p:=fun G L=>∃X q14 q15,L=SL G.i (.tup [.tup F,.tup u]) (.int (hd:Int)) step y t (.int (r:Int)) (qt v) (qt R) (qt N) (qr G.S0.length) X (qt Z) (qr G.r) q14 q15) (fun w hw=>by
    obtain⟨as,rs,rfl⟩:=hW3 w hw;have ee:vA F hd x y (.tup [.int (j:Int),.tup v,.tup R]) (.tup [.tup as,.tup rs])=.tup [.tup [.str "step",.int (hd:Int),.str x,y,.tup as],.tup [.tup Z,.tup rs]]:=by rw[<- hhs];rfl
    rw[ee];refine⟨by simp,λG L S acc hLp fr hS' hM=>?_⟩;obtain⟨X,q14,q15,rfl⟩:=hLp;refine⟨SL G.i (.tup [.tup F,.tup u]) (.int (hd:Int)) step y t (.int (r:Int)) (qt v) (qt R) (qt N) (qr G.S0.length) X (qt Z) (qr G.r) (qt as) (qt rs),_,_,rfl,jD rfl hS' (y:=.tup [.tup [.str "step",.int (hd:Int),.str x,y,.tup as],.tup [.tup Z,.tup rs]]) ?_ hS' (by lia),⟨_,_,_,rfl⟩,fr.set G.le G.hr _,hR hS'⟩;simp[step])
  obtain⟨X,ep⟩:=pre hhx b i S hB;have frA:=Fr.app b S [.fz (.dct K V),.lst []];have hk0:(S++[SO.fz (.dct K V),.lst []])[S.length]? = some (.fz (.dct K V)):=by simp
  have hk1:(S++[SO.fz (.dct K V),.lst []])[S.length+1]? = some (.lst []):=by simp
  obtain⟨d1,S1,e1,fr1,an1⟩:=esd b i (S++[.fz (.dct K V),.lst []]) S.length (hB.fr frA) hB.le hk0;have hb1:b≤(S++[SO.fz (.dct K V),.lst []]).length:=aM hB.le (by simp);obtain⟨S2,e2,fr2⟩:=oD (b:=b) (g:=Ph (n+1) "sendings") (q:=ac (aa 0) (ac (aa 2) (ac (eV (ab al (vv 3) (vi 5))) (ac (aa 10) (ac (aa 9) (ac (aa 8) ba)))))) (L:=SL i (.tup [.tup F,.tup u]) (.int (hd:Int)) step y t (.int (r:Int)) (qt v) (qt R) (qt N) (qr S.length) X (qt Z) (qr (S.length+1)) none none) (S:=S++[.fz (.dct K V),.lst []]) (l:=[.ref i,.p (.int (hd:Int)),.p (.lst sn),.ref S.length,.p (.tup N),.p (.tup R)]) (by simp[step,Fw]) e1 fr1 hb1 an1;obtain⟨L',S',e3,hL',fr3,h5⟩:=h3 ⟨b,i,S,S.length+1,hB,by lia⟩ _ S2 [] ⟨X,none,none,rfl⟩ (frA.trans fr2) (fr2.hi _ _ (aM hB.le (by lia)) hk1) (by simp;lia);obtain⟨q11',q14',q15',rfl⟩:=hL';refine⟨.ref (S.length+1),S',?_,fr3,.inr ⟨S.length+1,by lia,rfl,.inl h5⟩⟩;rw[eB];show(match bL _ _ [qr i,qt [.tup F,.tup u],qi (hd:Int),qp step,qp y,none,none,none,none,none,none,none,none,none,none,none] S with|some (.rt d,_,S')=>some (d,S')|some (.nx,_,S')=>some (.p .non,S')|_=>none)=_;unfold bL;rw[ep];rw[aj (e:=SL i (.tup [.tup F,.tup u]) (.int (hd:Int)) step y t (.int (r:Int)) (qt v) (qt l) (qt N) (qr S.length) X none none none none) (b:=S++[.fz (.dct K V)]) (by simp[tv,t,step,ecb])];rw[aj (e:=SL i (.tup [.tup F,.tup u]) (.int (hd:Int)) step y t (.int (r:Int)) (qt v) (qt l) (qt N) (qr S.length) X none none none none) (b:=S++[.fz (.dct K V)]) (by simp[pS,de])];rw[aj (e:=SL i (.tup [.tup F,.tup u]) (.int (hd:Int)) step y t (.int (r:Int)) (qt v) (qt R) (qt N) (qr S.length) X none none none none) (b:=S++[.fz (.dct K V)]) (by simp[t,step,oH,ewb])];rw[aj (e:=SL i (.tup [.tup F,.tup u]) (.int (hd:Int)) step y t (.int (r:Int)) (qt v) (qt R) (qt N) (qr S.length) X (qt Z) none none none) (b:=S++[.fz (.dct K V)]) (by simp[t,step,yI,KQ,ej,er])];rw[aj (e:=SL i (.tup [.tup F,.tup u]) (.int (hd:Int)) step y t (.int (r:Int)) (qt v) (qt R) (qt N) (qr S.length) X (qt Z) (qr (S.length+1)) none none) (b:=S++[.fz (.dct K V),.lst []]) (by simp)];rw[aj (e:=SL i (.tup [.tup F,.tup u]) (.int (hd:Int)) step y t (.int (r:Int)) (qt v) (qt R) (qt N) (qr S.length) q11' (qt Z) (qr (S.length+1)) q14' q15') (b:=S') (by rw[bC,d6,e2];exact e3)];rfl
noncomputable abbrev yf:=P×Option P×List P
def sT(h:List P)(hd:Nat)(s:P)(x:List yf):List P:=x.flatMap λt=>ye h hd (aC s) t.1 t.2.1 t.2.2
noncomputable def CM:P->P
 | .tup [_,_,_,_,_,_,x]=>x
 |_=>.non
def Ly(n:Nat)(H p c:List P)(r:Nat):P->Bool
 | .tup [_,.str a,w,_,_,_,_]=>match H[r]?,pureOf (Ph n "holds") [w,.dct (cd p) c] with
  |some (.str b),some (.bl h)=>decide (a=b) && h
  |_,_=>false
 |_=>false
def jf(s:P):Prop:=∃x m w c r,s=cT x m w .non c [] r
structure StpL(B:BD)(n:Nat)(fam:P)(rooms cells cs ws rds:List P)(r:Nat)(s:P)(ts:List yf):Prop where
 len:ts.length≤12
 lt:∀t ∈ ts,t.1=.non\/nU t.1
 un:(ts.map (·.1)).Pairwise (·≠·)
 ok:∀t ∈ ts,t.2.2.length≤64/\(∀h',t.2.1=some h'->hY fam h')/\(∃T,∀w ∈ t.2.2,je B T w)/\t.2.2.Pairwise Co
 own:jf s->ts=if Ly (n-1) rooms cells cs r s=true then [(.non,zo (n-2) fam rooms cells cs ws s (CM s),[.tup [.tup [],.tup rds]])] else []
theorem Il{e n k:Type}{s:List e}{Q:e->n->k->Prop}(h:∀x ∈ s,∃b c,Q x b c)(m:n)(r:k):∃f:e->n×k,∀x ∈ s,Q x (f x).1 (f x).2:=
 ⟨λx=>@dite _ (x ∈ s) (Classical.propDecidable _) (λa=>(Classical.choose (h x a),Classical.choose (Classical.choose_spec (h x a)))) λ_=>(m,r),λx a=>by dsimp only;rw[dif_pos a];exact Classical.choose_spec (Classical.choose_spec (h x a))⟩
theorem KZ{a e:Type}{s:List a}{Q:a->e->Prop}(h:∀x ∈ s,∃b,Q x b)(n:e):∃f:a->e,∀x ∈ s,Q x (f x):=by obtain⟨f,U⟩:=Il (Q:=λx b (_:Unit)=>Q x b) (λx k=>by obtain⟨b,h⟩:=h x k;exact⟨b,(),h⟩) n ();exact⟨λx=>(f x).1,U⟩
theorem qV(h:List P)(hd:Nat)(x:Str)(y:P)(o:Option P)(W:List P):(ye h hd x y o W).length≤W.length:=by unfold ye;cases o<;>simp
theorem HK{B:BD}(O:Pln B.fams B.roads B.wishes)(k:Places B){n:Nat}(Y:12≤n){hd:Nat}{I:Str}{E:Nat}{H p C A:List P}(J:Fam B.roads I E H p C A)(U:(aq B.fams)[hd]? = some (df I E H p C A)){r:Nat}{X l:List P}(hr1:r < H.length)(hcs:CellsOk p X)(hwl:l.length=C.length)(Q:∀w ∈ l,mu w){u:List P}(hrd:bb B u) :
  ∃F:P->List yf,(∀s ∈ A,StpL B n (df I E H p C A) H p X l u r s (F s))/\∀{a:List P},StL B a u->a[hd]? = some (.tup [.int (r:Int),.tup X,.tup l]) ->
   (A.flatMap λs=>sT a hd s (F s)).length≤6144/\∀(b i:Nat)(S:aD),Bd B b i S->∃d W,Ph n "hand_ends" [.ref i,.p (.tup [.tup a,.tup u]),.p (.int (hd:Int))] S=some (d,W)/\Fr b S W/\ku S W d (A.flatMap λs=>sT a hd s (F s)):=by
 obtain⟨n,rfl⟩:=fF (n:=n) (by first|assumption|lia);have ev:=xb (n:=n+1) (by lia) J hcs;have henv:=rj hcs;have hrg:H[r]? = some H[r]:=cK hr1;obtain⟨rn,hrn,hre⟩:=J.hro H[r] (gE _);rw[hre]at hrg;let j:List P->Nat->Nat->Option D->Option D->Lc:=λa i r' q9 e=>[qr i,qt [.tup a,.tup u],qi (hd:Int),qp (df I E H p C A),qi (r:Int),qt X,qt l,qp (.dct (cd p) X),qr r',q9,e]
 have key:∀s ∈ A,∃ts:List yf,(StpL B (n+2) (df I E H p C A) H p X l u r s ts/\∀a,(sT a hd s ts).length≤768)/\∀{a:List P},StL B a u->a[hd]? = some (.tup [.int (r:Int),.tup X,.tup l])->∀(G:GC B)(L:Lc)(S:aD)(N:List P),(∃q9 e,L=j a G.i G.r q9 e)->Fr G.b G.S0 S->S[G.r]? = some (.lst (N.map .p))->N.length+768≤10000 ->
   ∃L1 L2 S2,ag 9 s L=some L1/\cf (Ph (n+1)) (Ph n) L1 S=some (.nx,L2,S2)/\(∃q9 e,L2=j a G.i G.r q9 e)/\Fr G.b G.S0 S2/\S2[G.r]? = some (.lst ((N++sT a hd s ts).map .p)):=λx hx=>by
  obtain⟨K,o,V,T,m,Z,v,hsx,hSt,rfl⟩:=J.hst x hx;obtain⟨o,hrm,rfl⟩:=J.hro o hSt.h1;obtain⟨hb,eh⟩:=z0 (nO J.hce.1) henv hSt.wh (n:=n+1) (by lia);have hen:Ly (n+2-1) H p X r (cT K (.str o) V T m Z v)=(decide (o=rn) && hb):=by show(match H[r]?,pureOf (Ph (n+1) "holds") [V,.dct (cd p) X] with|some (.str b),some (.bl h)=>decide (o=b) && h|_,_=>false)=_;rw[hrg,eh]
  have hcond:∀(a:List P)(i r':Nat)(e:Option D)(S:aD),(fV (bV (az dC (eV (ab al (vv 9) (vi 1))) (eV (ab al (ab al (vv 3) (vi 2)) (vv 4))))) (bT (eV (ae (pureOf (Ph (n+1) "holds")) (v2 (ab al (vv 9) (vi 2)) (vv 7)))))) (j a i r' (qp (cT K (.str o) V T m Z v)) e) S=some (decide (o=rn) && hb,S):=λa i r' e S=>by by_cases q:o=rn<;>simp[j,KQ,bo hrg,q,eh]
  cases hc:(decide (o=rn) && hb) with
  |false=>refine⟨[],⟨⟨by simp,λ_ h=>(by cases h),.nil,λ_ h=>(by cases h),λ_=>by rw[hen,hc];rfl⟩,λa=>by simp[sT]⟩,λ{a} hS hhx G L S N hLp fr R hM=>?_⟩;obtain⟨q9,e,rfl⟩:=hLp;refine⟨j a G.i G.r (qp (cT K (.str o) V T m Z v)) e,j a G.i G.r (qp (cT K (.str o) V T m Z v)) e,S,rfl,?_,⟨_,_,rfl⟩,fr,by simpa[sT] using R⟩;unfold cf;rw[ka,hcond,hc];rfl
  |true=>
   obtain⟨ls,hl1,⟨hl2,hln,hlo⟩,el⟩:=A_ O k (n:=n+1) (by lia) U hrd hSt.htk;obtain⟨f,hfs⟩:=Il (λy hy=>GQ O k (n:=n+1) (by lia) J U hr1 hcs hwl Q hrd hsx hSt (hl2 y hy)) none [];have hst:∀a,sT a hd (cT K (.str o) V T m Z v) (ls.map λy=>(y,f y))=ls.flatMap λy=>ye a hd K y (f y).1 (f y).2:=λa=>by unfold sT;rw[nh];rfl
   have hl64:∀a,(ls.flatMap λy=>ye a hd K y (f y).1 (f y).2).length≤64 * ls.length:=λa=>by
    have:∀y ∈ ls,(f y).2.length≤64:=λy hy=>(hfs y hy).1;clear hst el hln hlo hl1 hl2 hfs;induction ls with
    |nil=>simp
    |cons y r ih=>rw[hE,cJ,bc];have h1:=qV a hd K y (f y).1 (f y).2;have h2:=this y List.mem_cons_self;have h3:=ih λz hz=>this z (aS _ hz);lia
   refine⟨ls.map λy=>(y,f y),⟨⟨by simpa using hl1,λt ht=>?_,?_,λt ht=>?_,λho=>?_⟩,λa=>by rw[hst];have:=hl64 a;lia⟩,λ{a} hS hhx G L S N hLp fr R hM=>?_⟩
   .obtain⟨y,hy,rfl⟩:=aX.mp ht;rcases hl2 y hy with h|⟨_,s,sp,_,_,h,_⟩
    .exact .inl h.2
    .exact .inr ⟨s,sp,h⟩
   .rw [j1];exact(List.map_id' ls).symm ▸ hln
   .obtain⟨y,hy,rfl⟩:=aX.mp ht;have h:=hfs y hy;exact⟨h.1,h.2.1.1,h.2.1.2.1,h.2.1.2.2.1⟩
   .obtain⟨_,_,_,_,_,ho⟩:=ho;simp only[P.tup.injEq,bN,P.lst.injEq,cD]at ho;obtain⟨_,_,_,htk,_,hsn,_⟩:=ho;have hls:=hlo htk;have h:=(hfs .non (by rw[hls];exact List.mem_cons_self)).2.1.2.2.2 htk;rw[hen,hc,if_pos rfl,hls];show[(P.non,f .non)]=_;rw[show f .non=((f .non).1,(f .non).2) from rfl,h.1,h.2 hsn];rfl
   .obtain⟨q9,e,rfl⟩:=hLp;rw [hst];obtain⟨k1,k3⟩:=dJ (i:=GC B) (f:=fun y=>ye a hd K y (f y).1 (f y).2) (g:=ag 10) (b:=fK (Ph (n+1)) (Ph n)) (Sp:=fun G S=>Fr G.b G.S0 S) (r:=fun G=>G.r) (c:=64) (M:=10000) (s:=ls) (p:=fun G L=>∃e,L=j a G.i G.r (qp (cT K (.str o) V T m Z v)) e) (fun y hy=>by
     have h:=hfs y hy;refine⟨aM (qV ..) h.1,λG L S N hLp fr R hM=>?_⟩;obtain⟨e,rfl⟩:=hLp;obtain⟨d,S1,e1,fr1,an⟩:=h.2.2 hS hhx G.b G.i S (G.bd.fr fr);have hle:=aM (qV a hd K y (f y).1 (f y).2) h.1;obtain⟨S2,e2,fr2⟩:=oD (b:=G.b) (g:=Ph (n+1) "step_ends") (q:=ac (aa 0) (ac (aa 1) (ac (aa 2) (ac (aa 9) (ac (aa 10) ba))))) (L:=j a G.i G.r (qp (cT K (.str o) V T m Z v)) (qp y)) (S:=S) (l:=[.ref G.i,.p (.tup [.tup a,.tup u]),.p (.int (hd:Int)),.p (cT K (.str o) V T m Z v),.p y]) rfl e1 fr1 (aM G.le fr.len) an;have hS2:=fr2.hi _ _ (aM G.le G.hr) R;exact⟨j a G.i G.r (qp (cT K (.str o) V T m Z v)) (qp y),_,_,rfl,kR rfl R e2 hS2 (by lia),⟨_,rfl⟩,(fr.trans fr2).set G.le G.hr _,hR hS2⟩)
    obtain⟨d,S1,e1,fr1,an⟩:=el G.b G.i S (G.bd.fr fr);obtain⟨S2,e2,fr2⟩:=oD (b:=G.b) (g:=Ph (n+1) "takeable") (q:=ac (aa 0) (ac (eV (ab al (vv 1) (vi 1))) (ac (aa 2) (ac (eV (ab al (vv 9) (vi 3))) ba)))) (L:=j a G.i G.r (qp (cT K (.str o) V T m Z v)) e) (S:=S) (l:=[.ref G.i,.p (.tup u),.p (.int (hd:Int)),.p T]) (by simp[j,oH]) e1 fr1 (aM G.le fr.len) an;obtain⟨L',W,e3,⟨q10',rfl⟩,fr3,h5⟩:=k3 G _ S2 N ⟨e,rfl⟩ (fr.trans fr2) (fr2.hi _ _ (aM G.le G.hr) R) (by lia);refine⟨j a G.i G.r (qp (cT K (.str o) V T m Z v)) e,j a G.i G.r (qp (cT K (.str o) V T m Z v)) q10',W,rfl,?_,⟨_,_,rfl⟩,fr3,h5⟩;unfold cf;rw[ka,hcond,hc];show b6 _ _ _ _ _=_;rw[bC,d6,e2];exact e3
 obtain⟨F,hFs⟩:=KZ key [];have hsl:=J.sl;refine⟨F,λs a=>(hFs s a).1.1,λ{a} hS hhx=>?_⟩;obtain⟨h1,h3⟩:=dJ (i:=GC B) (f:=λs=>sT a hd s (F s)) (g:=ag 9) (b:=cf (Ph (n+1)) (Ph n)) (Sp:=λG S=>Fr G.b G.S0 S) (r:=λG=>G.r) (c:=768) (M:=10000) (s:=A) (p:=λG L=>∃q9 e,L=j a G.i G.r q9 e) (λs h=>⟨(hFs s h).1.2 a,(hFs s h).2 hS hhx⟩);generalize (A.flatMap λs=>sT a hd s (F s))=ys at h1 h3;refine⟨by lia,λb i S hB=>?_⟩;obtain⟨L',W,e3,⟨q9,e,rfl⟩,fr3,h5⟩:=h3 ⟨b,i,S,S.length,hB,Nat.le_refl _⟩ (j a i S.length none none) (S++[.lst []]) [] ⟨none,none,rfl⟩ (Fr.app _ _ _) (gy _ _) (by simp;lia);refine⟨.ref S.length,W,?_,fr3,.inr ⟨S.length,Nat.le_refl _,rfl,.inl h5⟩⟩;have ef:=vw (n:=n+1) (by lia) hB U;obtain⟨jh,jp,jl,jm,mk,mv,h⟩:=hB;rw[fP];show(match cI _ _ [qr i,qt [.tup a,.tup u],qi (hd:Int),none,none,none,none,none,none,none,none] S with|some (.rt d,_,W)=>some (d,W)|some (.nx,_,W)=>some (.p .non,W)|_=>none)=_;unfold cI;rw[aj (e:=[qr i,qt [.tup a,.tup u],qi (hd:Int),qp (df I E H p C A),none,none,none,none,none,none,none]) (b:=S) (by rw[cq,h.meth rfl (IW _) I0 (l:=[.p (.int (hd:Int))]) (by simp),ef];rfl)];rw[aj (e:=[qr i,qt [.tup a,.tup u],qi (hd:Int),qp (df I E H p C A),qi (r:Int),qt X,qt l,none,none,none,none]) (b:=S) (by simp[bo hhx])];rw[aj (e:=[qr i,qt [.tup a,.tup u],qi (hd:Int),qp (df I E H p C A),qi (r:Int),qt X,qt l,qp (.dct (cd p) X),none,none,none]) (b:=S) (by simp[ev])];rw[aj (e:=j a i S.length none none) (b:=S++[.lst []]) (by simp[j])];rw[aj (e:=j a i S.length q9 e) (b:=W) (by rw[bC,d6,show(ab al (vv 3) (vi 5)) (j a i S.length none none) (S++[.lst []])=some (.lst A,S++[.lst []]) by simp[j,Lx]];exact e3)];rfl
noncomputable def BR:P->List P
 | .tup l=>l
 |_=>[]
noncomputable def kdOf:P->Str
 | .tup (_::_::.str k::_)=>k
 |_=>""
def jP(h u:List P)(w:Str)(k:Nat)(a c:P)(l:List P)(s:Nat):P:=.tup [.tup [.str w,a,c,.int (s:Int)],.tup [.tup h,.tup (u.set k (.tup (E1 w l s)))]]
def C5(h u:List P)(w:Str):P->List P
 | .tup [.int k,.tup [road,a,c]]=>if vn w road (BR (u[k.toNat]?.getD .non))=true then (qN (kdOf road) (BR (u[k.toNat]?.getD .non))).map (jP h u w k.toNat a c (BR (u[k.toNat]?.getD .non))) else []
 |_=>[]
def dL(B:BD)(h u:List P)(w:Str):List P:=(bf 0 B.PR).flatMap (C5 h u w)
theorem v_(h:i ∈ qN x e):i < e.length:=dF.mp (fy.mp h).1
theorem A4:(qN h x).length≤x.length:=aM (hJ ..) (by simp)
theorem zv(f:h->e)(s:List h):s.flatMap (λx=>[f x])=s.map f:=by
 induction s with
 |nil=>rfl
 |cons x r i=>rw[hE,i];rfl
variable{u:List P}
theorem vr(O:Pln B.fams B.roads B.wishes)(S:StL B f u)(w:Str)(n:B.PR[h]? = some x):∃road l,∃a c:Nat,∃d:Str,road ∈ B.roads/\x=pr road a c/\jx l/\u[h]? = some (.tup l)/\h < u.length/\fE road/\kdOf road=d/\al road (.int 2)=some (.str d)/\C5 f u w (.tup [.int (h:Int),x])=if vn w road l=true then (qN d l).map (jP f u w h (.int (a:Int)) (.int (c:Int)) l) else []:=by
 obtain⟨road,o,a,c,rfl⟩:=sQ (bH n);obtain⟨e,l,s,k⟩:=S.hr.at n;have r:=O.hr road o;refine⟨road,l,a,c,kdOf road,o,rfl,s,k,e,r,rfl,?_,?_⟩
 .obtain⟨t,p,d,c,b,m,_,_,_,_,_,rfl⟩:=r;simp[kdOf]
 .simp [C5,pr,k,BR]
set_option tactic.hygienic true in
theorem Ai{B:BD}(O:Pln B.fams B.roads B.wishes){s u:List P}(S:StL B s u){w:Str}(hw:w="lose"\/w="double"){z:P}(h:z ∈ dL B s u w):∃(k:Nat)(road:P)(l:List P)(a c p:Nat),B.PR[k]? = some (pr road a c)/\u[k]? = some (.tup l)/\z=jP s u w k (.int (a:Int)) (.int (c:Int)) l p/\ph B (.tup [.tup s,.tup (u.set k (.tup (E1 w l p)))]):=by
 obtain⟨v,j,h⟩:=cw.mp h;obtain⟨k,d,e⟩:=lj.mp j;obtain⟨x,t,rfl⟩:=eA (s:=B.PR) (i:=k) (v:=v) (by rw[cK d,e]);obtain⟨road,l,a,c,y,o,rfl,b,f,g,r,rfl,_,J⟩:=vr O S w t;rw[J]at h;split at h
 .rename_i U;obtain⟨p,m,rfl⟩:=aX.mp h;have h:=(C3 (n:=3) (by lia) hw b (λq=>(CV (n:=2) (by lia) hw r l).1 q U) (v_ m)).1;exact⟨k,road,l,a,c,p,t,f,rfl,s,_,rfl,S.hl,S.hh,S.hr.set k h⟩
 .cases h
theorem C1{B:BD}(O:Pln B.fams B.roads B.wishes){n:Nat}(Y:5≤n){w:Str}(hw:w="lose"\/w="double"){C u:List P}(hS:StL B C u) :
  (dL B C u w).length≤6144/\∀(b i:Nat)(S:aD),Bd B b i S->∃d o,Ph n "flaw_ends" [.ref i,.p (.tup [.tup C,.tup u]),.p (.str w)] S=some (d,o)/\Fr b S o/\ku S o d (dL B C u w):=by
 obtain⟨n,rfl⟩:=fF (n:=n) (by first|assumption|lia);have how:PyData.strOk w=true:=by rcases hw with rfl|rfl<;>simp
 have hpl:=oG O;have hrl:=hS.hr.1;let m:Nat->Nat->Option D->Option D->Option D->Option D->Option D->Option D->Option D->Option D->Lc:=λi V T U H F K j s e=>[qr i,qt [.tup C,.tup u],qs w,qr V,T,U,H,F,K,j,s,e]
 obtain⟨h1,h3⟩:=dJ (i:=GC B) (f:=C5 C u w) (g:=aP [ag 4,ag 5]) (b:=dW (Ph (n+1)) (Ph n)) (Sp:=fun G S=>Fr G.b G.S0 S) (r:=fun G=>G.r) (c:=3) (M:=10000) (s:=bf 0 B.PR) (p:=fun G L=>∃T U H F K j s e,L=m G.i G.r T U H F K j s e) (fun x hx=>by
  obtain⟨k,hk,hxe⟩:=lj.mp hx;obtain⟨p,hp,rfl⟩:=eA (s:=B.PR) (i:=k) (v:=x) (by rw[cK hk,hxe]);obtain⟨road,l,a,c,R,hro,rfl,N,hkr,hkl,Q,_,hkd,J⟩:=vr O hS w hp;obtain⟨Z,ef⟩:=CV (n:=n+1) (by lia) hw Q l;have eu:=Cy (n:=n+1) (by lia) R N;have hul:=A4 (h:=R) (x:=l);rw[J];clear J;generalize vn w road l=fb at Z ef;have hls3:=N.1;have pre:∀(i V:Nat)(H F K j s e:Option D)(S:aD)(g:ES),af (tj (aP [ag 6,ag 7,ag 8]) (vv 5)) (af (am 9 (eV (ab al (ab al (vv 1) (vi 1)) (vv 4)))) g) (m i V (qi (k:Int)) (qp (pr road a c)) H F K j s e) S=g (m i V (qi (k:Int)) (qp (pr road a c)) (qp road) (qi (a:Int)) (qi (c:Int)) (qt l) s e) S:=λi V H F K j s e S g=>by
   rw [aj (e:=m i V (qi (k:Int)) (qp (pr road a c)) (qp road) (qi (a:Int)) (qi (c:Int)) j s e) (b:=S) (by simp [m,pr]),
    aj (e:=m i V (qi (k:Int)) (qp (pr road a c)) (qp road) (qi (a:Int)) (qi (c:Int)) (qt l) s e) (b:=S) (by simp[m,bo hkr])]
  cases fb with
  |false=>refine⟨by simp,λG L S E A W t hM=>?_⟩;obtain⟨T,U,H,F,K,j,s,e,rfl⟩:=A;refine⟨m G.i G.r (qi (k:Int)) (qp (pr road a c)) H F K j s e,m G.i G.r (qi (k:Int)) (qp (pr road a c)) (qp road) (qi (a:Int)) (qi (c:Int)) (qt l) s e,S,rfl,?_,⟨_,_,_,_,_,_,_,_,rfl⟩,W,by simpa using t⟩;unfold dW;rw[pre];simp[m,ef]
  |true=>
   obtain⟨k1,k3⟩:=dJ (i:=GC B) (f:=λv=>match v with | .int z=>[jP C u w k (.int (a:Int)) (.int (c:Int)) l z.toNat]|_=>[]) (g:=ag 10) (b:=fL (Ph (n+1)) (Ph n)) (Sp:=λG S=>Fr G.b G.S0 S) (r:=λG=>G.r) (c:=1) (M:=10000) (s:=bn (qN R l)) (p:=λG L=>∃s e,L=m G.i G.r (qi (k:Int)) (qp (pr road a c)) (qp road) (qi (a:Int)) (qi (c:Int)) (qt l) s e) (λy hy=>by obtain⟨sp,hsp',rfl⟩:=aX.mp hy;have hsp:=v_ hsp';obtain⟨hz,ez⟩:=C3 (n:=n+1) (by lia) hw N (λq=>Z q rfl) hsp;have er:=nH (n:=n+1) (by lia) (xs:=u) (k:=k) hkl (by lia) (.tup (E1 w l sp));refine⟨by simp,λG L S E A W t hM=>?_⟩;simp only[Int.toNat_natCast,jP];generalize E1 w l sp=zs at hz ez er;obtain⟨s,e,rfl⟩:=A;refine⟨m G.i G.r (qi (k:Int)) (qp (pr road a c)) (qp road) (qi (a:Int)) (qi (c:Int)) (qt l) (qi (sp:Int)) e,m G.i G.r (qi (k:Int)) (qp (pr road a c)) (qp road) (qi (a:Int)) (qi (c:Int)) (qt l) (qi (sp:Int)) (qt (u.set k (.tup zs))),_,rfl,?_,⟨_,_,rfl⟩,W.set G.le G.hr _,hR t⟩;unfold fL;refine(aj (e:=m G.i G.r (qi (k:Int)) (qp (pr road a c)) (qp road) (qi (a:Int)) (qi (c:Int)) (qt l) (qi (sp:Int)) (qt (u.set k (.tup zs)))) (b:=S) (by simp[m,ez,er])).trans (jD rfl t ?_ t (by lia));simp[m])
   have hfm:(bn (qN R l)).flatMap (λv=>match v with | .int z=>[jP C u w k (.int (a:Int)) (.int (c:Int)) l z.toNat]|_=>[])=(qN R l).map (jP C u w k (.int (a:Int)) (.int (c:Int)) l):=by unfold bn;rw[nh];exact zv _ _
   have hnl:(bn (qN R l)).length=(qN R l).length:=by simp[bn]
   rw[hfm]at k1 k3;rw[hnl]at k1 k3;rw[if_pos rfl];refine⟨by lia,λG L S E A W t hM=>?_⟩;obtain⟨T,U,H,F,K,j,s,e,rfl⟩:=A;obtain⟨L',o,e3,⟨q10',q11',rfl⟩,I,h5⟩:=k3 G _ S E ⟨s,e,rfl⟩ W t (by lia);refine⟨m G.i G.r (qi (k:Int)) (qp (pr road a c)) H F K j s e,m G.i G.r (qi (k:Int)) (qp (pr road a c)) (qp road) (qi (a:Int)) (qi (c:Int)) (qt l) q10' q11',o,rfl,?_,⟨_,_,_,_,_,_,_,_,rfl⟩,I,h5⟩;unfold dW;rw[pre];simp only[m]at e3;simp[m,ef,hkd,eu,e3])
 rw[dn]at h1 h3;refine⟨by unfold dL;lia,λb i S hB=>?_⟩;have X:=Fr.app b S [.lst []];obtain⟨jh,jp,jl,jm,mk,mv,h⟩:=hB.fr X;have frB:=X.trans (Fr.frz h.bp h.pr);have hb:=hB.le;have hjp:=h.bp;obtain⟨L',o,e3,⟨T,U,H,F,K,j,s,e,rfl⟩,I,h5⟩:=h3 ⟨b,i,S,S.length,hB,Nat.le_refl _⟩ (m i S.length none none none none none none none none) ((S++[SO.lst []]).set jp (.fz (.lst B.PR))) [] ⟨none,none,none,none,none,none,none,none,rfl⟩ frB (by rw[a6 (by lia)];exact gy _ _) (by simp;lia);refine⟨.ref S.length,o,?_,I,.inr ⟨S.length,Nat.le_refl _,rfl,.inl h5⟩⟩;rw[o0];show(match hV _ _ [qr i,qt [.tup C,.tup u],qs w,none,none,none,none,none,none,none,none,none] S with|some (.rt d,_,o)=>some (d,o)|some (.nx,_,o)=>some (.p .non,o)|_=>none)=_;unfold hV;rw[aj (e:=m i S.length none none none none none none none none) (b:=S++[.lst []]) (by simp[m])];rw[aj (e:=m i S.length T U H F K j s e) (b:=o) (by rw[bC,vh,ny,h.pairs rfl,au,h.pr.frz];exact e3)];rfl
def HL(B:BD)(s u:List P)(l:Nat->List P):Prop:=∀k,k < (aq B.fams).length->(l k).length≤6144/\∀m,12≤m->∀(b i:Nat)(S:aD),Bd B b i S->∃d h,Ph m "hand_ends" [.ref i,.p (.tup [.tup s,.tup u]),.p (.int (k:Int))] S=some (d,h)/\Fr b S h/\ku S h d (l k)
def kO(B:BD)(h:Nat->List P):List P:=(List.range (aq B.fams).length).flatMap h
theorem uc(O:Pln B.fams B.roads B.wishes)(Y:14≤n)(hS:StL B e u)(hH:HL B e u T) :
  (kO B T++dL B e u "lose"++dL B e u "double").length≤40000/\∀(b i:Nat)(S:aD),Bd B b i S->∃d w,Ph n "ends_on" [.ref i,.p (.tup [.tup e,.tup u])] S=some (d,w)/\Fr b S w/\ku S w d (kO B T++dL B e u "lose"++dL B e u "double"):=by
 obtain⟨n,rfl⟩:=fF (n:=n) (by first|assumption|lia);have h4:=eT O;have hhl:=lH (f:=B.fams);obtain⟨la1,o⟩:=C1 O (n:=n+1) (by lia) (.inl rfl) hS;obtain⟨U,z⟩:=C1 O (n:=n+1) (by lia) (.inr rfl) hS;generalize dL B e u "lose"=la at la1 o;generalize dL B e u "double"=da at U z;let s:Nat->Nat->Option D->Lc:=λi r' q=>[qr i,qt [.tup e,.tup u],qr r',q]
 let f:P->List P:=λv=>match v with | .int x=>T x.toNat|_=>[]
 obtain⟨h1,N⟩:=dJ (i:=GC B) (f:=f) (g:=ag 3) (b:=ju (Ph (n+1)) (Ph n)) (Sp:=λG S=>Fr G.b G.S0 S) (r:=λG=>G.r) (c:=6144) (M:=100000) (s:=intsFrom 0 (homes B.fams).length) (p:=λG L=>∃q,L=s G.i G.r q) (λx hx=>by obtain⟨k,rfl,hk⟩:=dI hx;simp only[c6];obtain⟨m1,m3⟩:=hH k (by lia);refine⟨m1,λG L S acc hLp X F hM=>?_⟩;obtain⟨q,rfl⟩:=hLp;obtain⟨d,J,V,a,an⟩:=m3 (n+1) (by lia) G.b G.i S (G.bd.fr X);obtain⟨S2,W,m⟩:=oD (b:=G.b) (g:=Ph (n+1) "hand_ends") (q:=ac (aa 0) (ac (aa 1) (ac (aa 3) ba))) (L:=s G.i G.r (qi (k:Int))) (S:=S) (l:=[.ref G.i,.p (.tup [.tup e,.tup u]),.p (.int (k:Int))]) rfl V a (aM G.le X.len) an;have K:=m.hi _ _ (aM G.le G.hr) F;exact⟨s G.i G.r (qi (k:Int)),_,_,rfl,kR rfl F W K (by lia),⟨_,rfl⟩,(X.trans m).set G.le G.hr _,hR K⟩)
 rw[bt]at h1 N;have hys:(intsFrom 0 (homes B.fams).length).flatMap f=kO B T:=by rw[hhl,pQ];unfold bn kO;rw[nh];congr 1
 rw[hys]at h1 N;generalize kO B T=ys at h1 N;refine⟨by rw[cJ,cJ];lia,λb i S H=>?_⟩
 .have A:=Fr.app b S [.lst []];have y:=H.le;obtain⟨L',J,V,⟨q,rfl⟩,a,C⟩:=N ⟨b,i,S,S.length,H,Nat.le_refl _⟩ (s i S.length none) (S++[.lst []]) [] ⟨none,rfl⟩ A (gy _ _) (by simp;lia);obtain⟨d2,T2,f2,m,Q⟩:=o b i J (H.fr a);obtain⟨S2,W,t⟩:=oD (b:=b) (g:=Ph (n+1) "flaw_ends") (q:=ac (aa 0) (ac (aa 1) (ac (eV (vt "lose")) ba))) (L:=s i S.length q) (S:=J) (l:=[.ref i,.p (.tup [.tup e,.tup u]),.p (.str "lose")]) rfl f2 m (aM y a.len) Q;have E:=t.hi _ _ y C;have j:Fr b S (S2.set S.length (.lst (([]++ys++la).map .p))):=(a.trans t).set y (Nat.le_refl _) _;have l:=hR (x:=.lst (([]++ys++la).map .p)) E;obtain⟨d3,T3,f3,Z,R⟩:=z b i _ (H.fr j);obtain⟨S3,e3,p⟩:=oD (b:=b) (g:=Ph (n+1) "flaw_ends") (q:=ac (aa 0) (ac (aa 1) (ac (eV (vt "double")) ba))) (L:=s i S.length q) (l:=[.ref i,.p (.tup [.tup e,.tup u]),.p (.str "double")]) rfl f3 Z (aM y j.len) R;have I:=p.hi _ _ y l;refine⟨.ref S.length,S3.set S.length (.lst (([]++ys++la++da).map .p)),?_,(j.trans p).set y (Nat.le_refl _) _,.inr ⟨S.length,Nat.le_refl _,rfl,.inl (by rw[hR I];simp)⟩⟩;obtain⟨jh,jp,jl,jm,mk,mv,h⟩:=H.fr A;have hq:(homes B.fams).length < 1000000:=by lia
  rw[ud];show(match jv _ _ [qr i,qt [.tup e,.tup u],none,none] S with|some (.rt d,_,w)=>some (d,w)|some (.nx,_,w)=>some (.p .non,w)|_=>none)=_;unfold jv;rw[aj (e:=s i S.length none) (b:=S++[.lst []]) (by simp[s])];rw[aj (e:=s i S.length q) (b:=J) (by rw[bC,show gL (dA (dM (aT Att) (aa 0) "homes")) (s i S.length none) (S++[.lst []])=some (intsFrom 0 (homes B.fams).length,S++[.lst []]) by rw[rH,A3,h.homes rfl];simp[h.ho.len,hq]];exact V)]
  rw[aj (kR rfl C W E (by simp;lia))];rw[aj (kR rfl l e3 I (by simp;lia))];rfl
end My
namespace My
open PySem L2 Ev
theorem jC[DecidableEq w](x:w)(y:D):∀(s:List w)(l:List D),s.Nodup->s.length=l.length->(cM x y s l).1.Nodup/\(cM x y s l).1.length=(cM x y s l).2.length/\(cM x y s l).1.length≤s.length+1/\(∀k ∈ (cM x y s l).1,k=x\/k ∈ s)/\∀k,bR k (cM x y s l).1 (cM x y s l).2=if x=k then some y else bR k s l
 | [],[],_,_=>⟨by simp[cM],rfl,by simp[cM],λk h=>.inl (by simpa[cM] using h),λk=>by by_cases q:x=k<;>simp[cM,bR,q]⟩
 | [],_::_,_,h=>by simp at h
 |_::_,[],_,h=>by simp at h
 |a::s,v::l,f,m=>by
  obtain⟨c,f⟩:=List.nodup_cons.mp f;by_cases q:a=x
  .have e:cM x y (a::s) (v::l)=(a::s,y::l):=by simp[cM,q]
   rw[e];refine⟨List.nodup_cons.mpr ⟨c,f⟩,by simpa using m,by simp,λk h=>.inr h,λk=>?_⟩;subst q;by_cases n:a=k<;>simp[bR,n]
  .obtain⟨t,p,u,b,d⟩:=jC x y s l f (by simpa using m);have e:cM x y (a::s) (v::l)=(a::(cM x y s l).1,v::(cM x y s l).2):=by simp[cM,q]
   rw[e];refine⟨List.nodup_cons.mpr ⟨λz=>?_,t⟩,by simp[p],by simp;lia,λk h=>?_,λk=>?_⟩
   .rcases b a z with z|z
    .exact q z
    .exact c z
   .rcases bq.mp h with rfl|h
    .exact .inr List.mem_cons_self
    .rcases b k h with h|h
     .exact .inl h
     .exact .inr (aS _ h)
   .show (if a=k then some v else bR k (cM x y s l).1 (cM x y s l).2)=_;by_cases n:a=k
    .subst n;have:¬x=a:=λz=>q z.symm
     simp[bR,this]
    .rw [if_neg n,d];by_cases r:x=k
     .simp [r]
     .simp [r,bR,n]
noncomputable def oU:P->List bB
 | .tup [_,.int a,.int b]=>[.inl a,.inl b]
 |_=>[]
noncomputable abbrev KV:=List (List bB)×List D
def putAll:Nat->List P->KV->KV
 |_,[],s=>s
 |k,p::r,s=>putAll (k+1) r (cM (oU p) (.p (.int (k:Int))) s.1 s.2)
structure KVok(s:KV):Prop where
 nd:s.1.Nodup
 ln:s.1.length=s.2.length
theorem KVok.put(h:KVok s)(k:List bB)(y:D):KVok (cM k y s.1 s.2):=by obtain⟨x,a,_⟩:=jC k y s.1 s.2 h.nd h.ln;exact⟨x,a⟩
theorem CI:∀(ps:List P)(k:Nat)(s:KV),KVok s->∀y d,bR y (putAll k ps s).1 (putAll k ps s).2=some d->bR y s.1 s.2=some d\/∃(j:Nat)(p:P),ps[j]? = some p/\d=.p (.int ((k+j:Nat):Int))
 | [],k,s,h,y,d,e=>.inl e
 |p::r,k,s,h,y,d,e=>by
  rcases CI r (k+1) _ (h.put (oU p) (.p (.int (k:Int)))) y d e with e|⟨j,n,x,a⟩
  .rw [(jC (oU p) (.p (.int (k:Int))) s.1 s.2 h.nd h.ln).2.2.2.2]at e;split at e
   .cases e;exact .inr ⟨0,p,rfl,rfl⟩
   .exact .inl e
  .exact .inr ⟨j+1,n,by simpa using x,by rw[a,show k+1+j=k+(j+1) by lia]⟩
theorem zn:∀(ps:List P)(k:Nat)(s:KV),KVok s->∀y,((∃d,bR y s.1 s.2=some d)\/∃p ∈ ps,oU p=y)->∃d,bR y (putAll k ps s).1 (putAll k ps s).2=some d
 | [],k,s,h,y,q=>by
  rcases q with q|⟨_,z,_⟩
  .exact q
  .cases z
 |p::r,k,s,h,y,q=>by
  refine zn r (k+1) _ (h.put (oU p) (.p (.int (k:Int)))) y ?_;have e:=(jC (oU p) (.p (.int (k:Int))) s.1 s.2 h.nd h.ln).2.2.2.2 y;by_cases w:oU p=y
  .exact .inl ⟨_,by rw[e,if_pos w]⟩
  .rcases q with ⟨d,q⟩|⟨x,z,q⟩
   .exact .inl ⟨d,by rw[e,if_neg w];exact q⟩
   .rcases bq.mp z with rfl|z
    .exact absurd q w
    .exact .inr ⟨x,z,q⟩
def xE(m r w:List P):BD:=⟨m,r,w,(putAll 0 (a8 (ao m) r) ([],[])).1,(putAll 0 (a8 (ao m) r) ([],[])).2⟩
theorem KC:KVok ([],[]):=⟨by simp,rfl⟩
theorem xD(m o w:List P):Places (xE m o w) where
 get:=λr a b h=>zn _ 0 _ KC _ (.inr ⟨_,h,rfl⟩)
 ok:=λx y d h=>by
  rcases CI _ 0 _ KC _ d h with e|⟨j,p,s,n⟩
  .cases e
  .obtain⟨r,k,a,b,rfl⟩:=sQ (B:=xE m o w) (bH s);exact⟨j,r,a,b,k,by rw[n,eN],s⟩
@[simp] theorem MU:¬("families":Str)="homes"/\¬("families":Str)="pairs"/\¬("families":Str)="places"/\¬("families":Str)="members"/\¬("homes":Str)="pairs"/\¬("homes":Str)="places"/\¬("homes":Str)="members"/\¬("pairs":Str)="places"/\¬("pairs":Str)="members"/\¬("places":Str)="members":=by decide +kernel
theorem C_{ψ ι:Str->GF}(l:P)(a b c:D)(o u:SO):∀(ps:List P)(k:Nat)(s:KV),KVok s->s.1.length+ps.length≤900000->(∀p ∈ ps,∃r x y,p=.tup [r,.int x,.int y])->∀f m:Option D,∃q n,
  aR (aP [ag 2,ag 3]) (fu ψ ι) (bf (k:Int) ps) [qr 0,qp l,f,m,none] [.ins "Board" ["families","homes","pairs","places"] [a,b,c,.ref 3],o,u,.dtt s.1 s.2]=some (.nx,[qr 0,qp l,q,n,none],[.ins "Board" ["families","homes","pairs","places"] [a,b,c,.ref 3],o,u,.dtt (putAll k ps s).1 (putAll k ps s).2])
 | [],k,s,_,_,_,f,m=>⟨f,m,rfl⟩
 |p::r,k,s,h,i,g,f,m=>by
  simp only[bc]at i;obtain⟨d,x,y,rfl⟩:=g p List.mem_cons_self;have j:=(jC (oU (.tup [d,.int x,.int y])) (.p (.int (k:Int))) s.1 s.2 h.nd h.ln).2.2.1;obtain⟨q,n,e⟩:=C_ (ψ:=ψ) (ι:=ι) l a b c o u r (k+1) _ (h.put (oU (.tup [d,.int x,.int y])) (.p (.int (k:Int)))) (by lia) (λp v=>g p (aS _ v)) (qi (k:Int)) (qt [d,.int x,.int y]);refine⟨q,n,?_⟩;unfold bf putAll;rw[ik]at e;refine(bu (y:=[qr 0,qp l,qi (k:Int),qt [d,.int x,.int y],none]) rfl ?_).trans e;have t:=h.nd;have w:s.1.length≤1000000:=by lia
  simp[fu,jI,gK,iG,cn,b8,t,w,oU]
theorem wF:∀{k:List bB}{l:List D},bR r k l=bI r k l
 | [],_=>by cases ‹List D›<;>rfl
 |_::_,[]=>rfl
 |h::k,v::l=>by
  show(if h=r then some v else bR r k l)=if h=r then some v else bI r k l
  rw[wF]
theorem B7{n:Nat}(w:2≤n){m:List P}{S:aD}{a e s:D}(x:S[0]? = some (.ins "Board" fields [.p (.lst m),.ref 1,a,e,s]))(q:S[1]? = some (.lst ((homes m).map .p))){k:Nat}{f:P}(v:(aq m)[k]? = some f):Ph n "Board.family_of" [.ref 0,.p (.int (k:Int))] S=some (.p f,S):=by
 obtain⟨n,rfl⟩:=fF (n:=n) (by first|assumption|lia);obtain⟨p,b,c⟩:=pR v;have r:uP (dM (aT Att) (aa 0) "homes") (vv 1) [qr 0,qi (k:Int)] S=some (.p (.int (p:Int)),S):=jw.ix (j:=1) (.inl q) (by simp[x,jI,BU]) rfl (bo b);have t:dM (aT Att) (aa 0) "families" [qr 0,qi (k:Int)] S=some (.p (.lst m),S):=by simp[x,jI,BU]
 rw[b_];show(match aH _ [qr 0,qi (k:Int)] S with|some (.rt d,_,h)=>some (d,h)|some (.nx,_,h)=>some (.p .non,h)|_=>none)=_;rw[qW,jn,t,au,ny,r];simp[bo c]
noncomputable def g8(N:LS)(t:Nat)(s:Str):List Nat:=(List.range t).filter λi=>decide (N[i]? = some s)
theorem iL(N:LS)(t:Nat)(s:Str):g8 N (t+1) s=if N[t]? = some s then g8 N t s++[t] else g8 N t s:=by
 unfold g8;rw[List.range_succ,List.filter_append];by_cases h:N[t]? = some s
 .rw [if_pos h,nq (by simpa using h)];rfl
 .rw [if_neg h,np (by simpa using h)];simp
theorem vM(a:t≤N.length)(h:s ∉ N.take t):g8 N t s=[]:=by
 unfold g8;refine nl.mpr λi x q=>h ?_
 have x:i < t:=dF.mp x;have e:=of_decide_eq_true q;rw[<- iz x]at e;exact bH e
structure MI(fams:List P)(o2 o3:SO)(t:Nat)(mk:List bB)(mv:List D)(S:aD):Prop where
 h0:S[0]? = some (.ins "Board" fields [.p (.lst fams),.ref 1,.ref 2,.ref 3,.ref 4])
 h1:S[1]? = some (.lst ((homes fams).map .p))
 h2:S[2]? = some o2
 h3:S[3]? = some o3
 h4:S[4]? = some (.dct mk mv)
 nd:mk.Nodup
 ln:mk.length=mv.length
 le:mk.length≤t
 yes:∀s ∈ (ao fams).take t,∃j,bR (.inr s) mk mv=qr j/\5≤j/\S[j]? = some (.lst ((bn (g8 (ao fams) t s)).map .p))
 no:∀s,s ∉ (ao fams).take t->bR (.inr s) mk mv=none
 inj:∀s s' j,bR (.inr s) mk mv=qr j->bR (.inr s') mk mv=qr j->s=s'
variable{m:List P}{n:Nat}
set_option tactic.hygienic true in
theorem BO(h:MI m o2 o3 t mk r S)(hn:2≤n)(ht:t≤100)(L:∀f ∈ m,ey rs f)(J:(aq m)[t]? = some f)(l:P)(v d:Option D) :
  ∃R U X,MI m o2 o3 (t+1) R U X/\bZ (Ph n) (Ph (n-1)) [qr 0,qp l,v,d,qi (t:Int)] S=some (.nx,[qr 0,qp l,v,d,qi (t:Int)],X):=by
 have N:(ao m)[t]? = some (aC f):=by unfold ao;rw[List.getElem?_map,J];rfl
 have htl:t < (ao m).length:=aY N;have ef:=B7 hn h.h0 h.h1 J;have em:dB (mT Tb (Ph n)) (aa 0) "family_of" (ac (aa 4) ba) [qr 0,qp l,v,d,qi (t:Int)] S=some (.p f,S):=by rw[ij];show aG (some (D.ref 0,S)) _=_;rw[au];simp only[h.h0,IW,I0];exact ef
 have Z:(ab al (vE (dB (mT Tb (Ph n)) (aa 0) "family_of" (ac (aa 4) ba))) (vi 0)) [qr 0,qp l,v,d,qi (t:Int)] S=some (.str (aC f),S):=by obtain⟨nm,c,V,I,whos,W,_,rfl⟩:=ig L (bH J);rw[Dx,ny,em];simp[aC]
 have eo:dM (aT Att) (aa 0) "members" [qr 0,qp l,v,d,qi (t:Int)] S=some (.ref 4,S):=by simp[h.h0,jI,BU]
 have l5:4 < S.length:=aY h.h4;have E:(ao m).take (t+1)=(ao m).take t++[aC f]:=by rw[List.take_add_one,N];rfl
 have p:∀k,k < S.length->(S++[SO.lst []])[k]? = S[k]?:=λk B=>List.getElem?_append_left B;have u:jF (.ref 4) S=some (4,mk,r):=by simp[jF,h.h4]
 have o:jF (.ref 4) (S++[.lst []])=some (4,mk,r):=by simp[jF,p 4 l5,h.h4]
 have A:(mk.Nodup/\few mk=true):=⟨h.nd,by rw[oe];have:=h.le;lia⟩;by_cases Q:aC f ∈ (ao m).take t
 .obtain⟨j,F,hj,Y⟩:=h.yes _ Q;have M:j < S.length:=aY Y;have K:(S++[SO.lst []])[j]? = some (.lst ((bn (g8 (ao m) t (aC f))).map .p)):=by rw[p j M];exact Y
  have C:(bn (g8 (ao m) t (aC f))).length≤1000000:=by have:=hJ (λi=>decide ((ao m)[i]? = some (aC f))) (List.range t);simp[bn,g8];simp at this;lia
  refine⟨mk,r,(S++[SO.lst []]).set j (.lst ((bn (g8 (ao m) (t+1) (aC f))).map .p)),?_,?_⟩
  .have e:∀k,k < S.length->k≠j->((S++[SO.lst []]).set j (.lst ((bn (g8 (ao m) (t+1) (aC f))).map .p)))[k]? = S[k]?:=λk B q=>by rw[a6 (λz=>q z.symm),p k B]
   refine⟨by rw[e 0 (by lia) (by lia)];exact h.h0,by rw[e 1 (by lia) (by lia)];exact h.h1,by rw[e 2 (by lia) (by lia)];exact h.h2,by rw[e 3 (by lia) (by lia)];exact h.h3,by rw[e 4 (by lia) (by lia)];exact h.h4,h.nd,h.ln,by have:=h.le;lia,λs x=>?_,λs x=>?_,h.inj⟩
   .by_cases q:s=aC f
    .subst q;exact⟨j,F,hj,by rw[dD (by simp;lia)]⟩
    .have g:s ∈ (ao m).take t:=by
      rw[E]at x;rcases du.mp x with z|z
      .exact z
      .exact absurd (fY.mp z) q
     obtain⟨y,a,b,H⟩:=h.yes s g;have O:y≠j:=λz=>q (h.inj s (aC f) j (z ▸ a) F);refine⟨y,a,b,?_⟩;rw[e y (aY H) O,iL,if_neg λz=>q (by rw[N]at z;cases z;rfl)];exact H
   .exact h.no s λz=>x (by rw[E];exact fA _ z)
  .unfold bZ;rw[kE,ki,ol,eo,au];simp only[u,Z,au];rw[show cv aO [some (D.ref 0),qp l,v,d,qi (t:Int)] S=some (.ref S.length,S++[.lst []]) by simp];simp only[au,o,b8,if_pos A,F,c8,K];rw[show aa 4 [some (D.ref 0),qp l,v,d,qi (t:Int)] (S++[SO.lst []])=some (.p (.int (t:Int)),S++[.lst []]) from rfl,au];simp only[K];rw[if_pos (by rw[oe,a9];exact C),iL,if_pos N];simp[bn]
 .have F:=h.no _ Q;obtain⟨g1,g2,g3,g4,G⟩:=jC (.inr (aC f):bB) (.ref S.length) mk r h.nd h.ln;have c0:g8 (ao m) t (aC f)=[]:=vM (by lia) Q;refine⟨(cM (Sum.inr (aC f):bB) (.ref S.length) mk r).1,(cM (Sum.inr (aC f):bB) (.ref S.length) mk r).2,((S++[SO.lst []]).set 4 (SO.dct (cM (Sum.inr (aC f):bB) (.ref S.length) mk r).1 (cM (Sum.inr (aC f):bB) (.ref S.length) mk r).2)).set S.length (.lst [.p (.int (t:Int))]),?_,?_⟩
  .have e:∀k,k < S.length->k≠4->(((S++[SO.lst []]).set 4 (.dct (cM (.inr (aC f)) (.ref S.length) mk r).1 (cM (.inr (aC f)) (.ref S.length) mk r).2)).set S.length (.lst [.p (.int (t:Int))]))[k]? = S[k]?:=λk B q=>by rw[a6 (by lia),a6 (λz=>q z.symm),p k B]
   refine⟨by rw[e 0 (by lia) (by lia)];exact h.h0,by rw[e 1 (by lia) (by lia)];exact h.h1,by rw[e 2 (by lia) (by lia)];exact h.h2,by rw[e 3 (by lia) (by lia)];exact h.h3,by rw[a6 (by lia),dD (by simp;lia)],g1,g2,by have:=h.le;lia,λs x=>?_,λs x=>?_,λs s' j a b=>?_⟩
   .by_cases q:s=aC f
    .subst q;refine⟨S.length,by rw[G,if_pos rfl],by lia,?_⟩;rw[dD (by simp),iL,if_pos N,c0];rfl
    .have g:s ∈ (ao m).take t:=by
      rw[E]at x;rcases du.mp x with z|z
      .exact z
      .exact absurd (fY.mp z) q
     obtain⟨y,a,b,H⟩:=h.yes s g;refine⟨y,by rw[G,if_neg λz=>q (i6 z).symm];exact a,b,?_⟩;rw[e y (aY H) (by lia),iL,if_neg λz=>q (by rw[N]at z;cases z;rfl)];exact H
   .rw [G,if_neg λz=>x (by rw[E,<- i6 z];simp)];exact h.no s λz=>x (by rw[E];exact fA _ z)
   .have low:∀s j,bR (.inr s) mk r=qr j->j < S.length:=λs j q=>by
     by_cases w:s ∈ (ao m).take t
     .obtain⟨y,a,_,H⟩:=h.yes s w;rw[q]at a;cases a;exact aY H
     .rw [h.no s w]at q;cases q
    rw[G]at a b;split at a
    .rename_i z1;cases a;split at b
     .rename_i z2;exact(i6 z1).symm.trans (i6 z2)
     .exact absurd (low _ _ b) (by lia)
    .split at b
     .cases b;exact absurd (low _ _ a) (by lia)
     .exact h.inj s s' j a b
  .have l1:((S++[SO.lst []]).set 4 (.dct (cM (.inr (aC f)) (.ref S.length) mk r).1 (cM (.inr (aC f)) (.ref S.length) mk r).2))[S.length]? = some (.lst []):=by
    rw[a6 (by lia)];exact gy _ _
   unfold bZ;rw[kE,ki,ol,eo,au];simp only[u,Z,au];rw[show cv aO [some (D.ref 0),qp l,v,d,qi (t:Int)] S=some (.ref S.length,S++[.lst []]) by simp];simp only[au,o,b8,if_pos A,F,c8,l1];rw[show ∀T:aD,aa 4 [some (D.ref 0),qp l,v,d,qi (t:Int)] T=some (.p (.int (t:Int)),T) from λ_=>rfl,au];simp only[l1];rfl
theorem BP(y:2≤n)(r:∀f ∈ m,ey E f)(H:(aq m).length≤100)(p:P)(s c:Option D)(h:MI m j C 0 [] [] S) :
  ∃mk a x q,MI m j C (aq m).length mk a x/\aR (ag 4) (bZ (Ph n) (Ph (n-1))) (intsFrom 0 (aq m).length) [qr 0,qp p,s,c,none] S=some (.nx,[qr 0,qp p,s,c,q],x):=by
 obtain⟨o,x,e,mk,a,q,I,rfl⟩:=bw (g:=ag 4) (b:=bZ (Ph n) (Ph (n-1))) (Inv:=λt L S=>∃mk a q,MI m j C t mk a S/\L=[qr 0,qp p,s,c,q]) (s:=intsFrom 0 (aq m).length) (k:=0) (L:=[qr 0,qp p,s,c,none]) (S:=S) (λi v L S z I=>by obtain⟨rfl,l⟩:=ints_get z;obtain⟨mk,a,q,I,rfl⟩:=I;simp only[c6];rw[eN]at I ⊢;obtain⟨d,w,x,u,e⟩:=BO I y (by lia) r (cK l) p s c;exact⟨_,_,x,rfl,e,d,w,_,u,rfl⟩) ⟨[],[],none,h,rfl⟩
 rw[bt,eN]at I;exact⟨mk,a,x,q,I,e⟩
theorem uI(x:Pln m q w)(J:4≤n):∃S,Ph n "Board.__init__" [.ref 0,.p (.tup [.lst m,.lst q,.lst w])] [.ins "Board" [] []]=some (.p .non,S)/\Bd (xE m q w) S.length 0 S:=by
 obtain⟨n,rfl⟩:=fF (n:=n) (by first|assumption|lia);let l:P:=.tup [.lst m,.lst q,.lst w]
 let R:=a8 (ao m) q
 have F:R.length≤2048:=oG (B:=xE m q w) x;have G:=eT x;have v:=lH (f:=m);obtain⟨e,f,c⟩:=C_ (ψ:=Ph (n+1)) (ι:=Ph n) l (.p (.lst m)) (.ref 1) (.ref 2) (.lst ((homes m).map .p)) (.fz (.lst R)) R 0 ([],[]) KC (by simp;lia) (λp H=>by obtain⟨r,_,a,b,rfl⟩:=sQ (B:=xE m q w) H;exact⟨r,a,b,rfl⟩) none none
 rw[show((0:Nat):Int)=0 from rfl]at c;generalize u:putAll 0 R ([],[])=k at c;have I:MI m (.fz (.lst R)) (.dtt k.1 k.2) 0 [] [] [.ins "Board" fields [.p (.lst m),.ref 1,.ref 2,.ref 3,.ref 4],.lst ((homes m).map .p),.fz (.lst R),.dtt k.1 k.2,.dct [] []]:=
  ⟨rfl,rfl,rfl,rfl,rfl,by simp,rfl,by simp,λs h=>(by simp at h),λs _=>rfl,λs s' j h=>(by cases h)⟩
 obtain⟨mk,y,S,L,M,g⟩:=BP (n:=n+1) (by lia) x.hf (by lia) l e f I;have t:Bat (xE m q w) S.length 0 1 2 3 4 mk y S:=by
  refine⟨M.h0,.inl M.h1,.inr M.h2,?_,M.h4,λs A=>?_,aY M.h0,aY M.h1,aY M.h2,aY M.h3,aY M.h4,Nat.le_refl _⟩
  .have:=M.h3;rw[<- u]at this;exact this
  .have N:(ao m).length=(aq m).length:=by simp[ao]
   obtain⟨j,C,_,i⟩:=M.yes s (by rw[<- N,mV];exact A);refine⟨j,aY i,by rw[<- wF];exact C,.inl ?_⟩;have:g8 (ao m) (aq m).length s=bS (xE m q w).N s:=by rw[<- N];rfl
   rw[<- this];exact i
 refine⟨S,?_,1,2,3,4,mk,y,t⟩;have z:=C2 (n:=n+1) (by lia) x.hf x.f0.2 (.lst q) (.lst w);have o:=CF (n:=n+1) (by lia) x;rw[oj];show(match gP _ _ [qr 0,qp l,none,none,none] [.ins "Board" [] []] with|some (.rt d,_,S)=>some (d,S)|some (.nx,_,S)=>some (.p .non,S)|_=>none)=_;unfold gP;rw[aj (e:=[qr 0,qp l,none,none,none]) (b:=[.ins "Board" ["families"] [.p (.lst m)]]) (by simp[l,jI,Ev.putK,Ev.nJ])];rw[aj (e:=[qr 0,qp l,none,none,none]) (b:=[.ins "Board" ["families","homes"] [.p (.lst m),.ref 1],.lst ((homes m).map .p)]) (by simp[l,jI,Ev.putK,Ev.nJ,z])];rw[aj (e:=[qr 0,qp l,none,none,none]) (b:=[.ins "Board" ["families","homes","pairs"] [.p (.lst m),.ref 1,.ref 2],.lst ((homes m).map .p),.lst (R.map .p)]) (by simp[l,jI,Ev.putK,Ev.nJ,o,R])];rw[aj (e:=[qr 0,qp l,none,none,none]) (b:=[.ins "Board" ["families","homes","pairs","places"] [.p (.lst m),.ref 1,.ref 2,.ref 3],.lst ((homes m).map .p),.lst (R.map .p),.dtt [] []]) (by simp[jI,Ev.putK,Ev.nJ])];have E:toP 9 (.ref 2) [.ins "Board" ["families","homes","pairs","places"] [.p (.lst m),.ref 1,.ref 2,.ref 3],.lst ((homes m).map .p),.lst (R.map .p),.dtt [] []]=some (.lst R,[.ins "Board" ["families","homes","pairs","places"] [.p (.lst m),.ref 1,.ref 2,.ref 3],.lst ((homes m).map .p),.fz (.lst R),.dtt [] []]):=eG rfl;rw[aj (e:=[qr 0,qp l,e,f,none]) (b:=[.ins "Board" ["families","homes","pairs","places"] [.p (.lst m),.ref 1,.ref 2,.ref 3],.lst ((homes m).map .p),.fz (.lst R),.dtt k.1 k.2]) (by rw[bC,vh,ny];rw[show dM (aT Att) (aa 0) "pairs" [some (D.ref 0),qp l,none,none,none] [SO.ins "Board" ["families","homes","pairs","places"] [.p (.lst m),.ref 1,.ref 2,.ref 3],.lst ((homes m).map .p),.lst (R.map .p),.dtt [] []]=some (.ref 2,[SO.ins "Board" ["families","homes","pairs","places"] [.p (.lst m),.ref 1,.ref 2,.ref 3],.lst ((homes m).map .p),.lst (R.map .p),.dtt [] []]) by simp[jI,gK],au,E];exact c)]
 rw[aj (e:=[qr 0,qp l,e,f,none]) (b:=[.ins "Board" fields [.p (.lst m),.ref 1,.ref 2,.ref 3,.ref 4],.lst ((homes m).map .p),.fz (.lst R),.dtt k.1 k.2,.dct [] []]) (by simp[jI,Ev.putK,Ev.nJ,mh,fields])];have K:(homes m).length < 1000000:=by lia
 rw[bC,show gL (dA (dM (aT Att) (aa 0) "homes")) [some (D.ref 0),qp l,e,f,none] [SO.ins "Board" fields [.p (.lst m),.ref 1,.ref 2,.ref 3,.ref 4],.lst ((homes m).map .p),.fz (.lst R),.dtt k.1 k.2,.dct [] []]=some (intsFrom 0 (homes m).length,[SO.ins "Board" fields [.p (.lst m),.ref 1,.ref 2,.ref 3,.ref 4],.lst ((homes m).map .p),.fz (.lst R),.dtt k.1 k.2,.dct [] []]) by simp[jI,BU,b7,K],au,v];simp only[j7]at g;rw[g]
def LE(f g:q->aD->Option w):Prop:=∀L S r,f L S=some r->g L S=some r
theorem d5:LE f f:=λ_ _ _ h=>h
theorem aW(v:∀a,x=some a->j=some a)(k:∀a S r,q a S=some r->w a S=some r)(h:aG x q=some r):aG j w=some r:=by obtain⟨a,S,e,h⟩:=ai h;rw[v _ e,au];exact k _ _ _ h
section
variable{f e:EE}{a i b z:EV}{c H d A:EB}{s s' t B:ES}{l p:gf}{y u:oJ}{g k:GF}
theorem Ey(h:LE s s')(k:LE t B):LE (af s t) (af s' B):=λL S r q=>by
 rw[mW]at q ⊢;cases e:s L S with
 |none=>rw[e]at q;cases q
 |some z=>obtain⟨f,x,a⟩:=z;rw[e]at q;rw[h _ _ _ e];cases f<;>first|exact k _ _ _ q|exact q
theorem le_if(x:LE c H)(h:LE s s')(k:LE t B):LE (d_ c s t) (d_ H s' B):=λL S r q=>aW (x L S) (λw a r q=>by cases w<;>first|exact k _ _ _ q|exact h _ _ _ q) q
theorem Ex(h:LE f e):LE (am w f) (am w e):=λL S r q=>aW (h L S) (λ_ _ _ q=>q) q
theorem Ez(h:LE f e):LE (aH f) (aH e):=λL S r q=>aW (h L S) (λ_ _ _ q=>q) q
theorem BY(h:LE f e):LE (bP f) (bP e):=λL S r q=>aW (h L S) (λ_ _ _ q=>q) q
theorem tN{g:iU}(h:LE s s'):∀(a:List P)(L:Lc)(S:aD)(r:Fl×Lc×aD),aR g s a L S=some r->aR g s' a L S=some r
 | [],_,_,_,q=>q
 |x::a,L,S,r,q=>by
  simp only[aR]at q ⊢;cases e:g x L with
  |none=>rw[e]at q;cases q
  |some k=>
   rw[e]at q;simp only at q ⊢;cases n:s k S with
   |none=>rw[n]at q;cases q
   |some z=>obtain⟨l,L2,f⟩:=z;rw[n]at q;rw[h _ _ _ n];cases l<;>first|exact tN h a L2 f r q|exact q
theorem EF{g:iU}(h:LE l p)(k:LE s s'):LE (b6 l g s) (b6 p g s'):=λL S r q=>aW (h L S) (λa x r q=>tN k a L x r q) q
theorem BW(h:LE a i):LE (fw o w a) (fw o w i):=λL S r q=>by
 cases e:a L S with
 |none=>simp only[fw,oR,pF,e]at q;cases q
 |some z=>have x:=h _ _ _ e;simp only[fw,oR,pF,e]at q;simp only[fw,oR,pF,x];exact q
theorem Hv(h:LE a i):LE (eV a) (eV i):=λL S r q=>aW (h L S) (λ_ _ _ q=>q) q
theorem Hq(h:LE f e):LE (vE f) (vE e):=λL S r q=>aW (h L S) (λ_ _ _ q=>q) q
theorem Hs(h:LE a i)(k:LE b z):LE (ab o a b) (ab o i z):=λL S r q=>aW (h L S) (λ_ x _ q=>aW (k L x) (λ_ _ _ q=>q) q) q
theorem ED (h:LE a i) (k:LE b z):LE (oK a b) (oK i z):=fun L S r q=>aW (h L S) (fun v x r q=>by
 cases v with
 |lst p=>exact aW (k L x) (λ_ _ _ q=>q) q
 |tup p=>exact aW (k L x) (λ_ _ _ q=>q) q
 |_=>cases q) q
theorem Eu(x:LE c H)(h:LE a i)(k:LE b z):LE (Cw c a b) (Cw H i z):=λL S r q=>aW (x L S) (λw e r q=>by cases w<;>first|exact k _ _ _ q|exact h _ _ _ q) q
theorem Ho(h:LE a i)(k:LE l p):LE (aN a l) (aN i p):=λL S r q=>aW (h L S) (λ_ x _ q=>aW (k L x) (λ_ _ _ q=>q) q) q
theorem Hw(h:LE f e)(k:LE y u):LE (ac f y) (ac e u):=λL S r q=>aW (h L S) (λ_ x _ q=>aW (k L x) (λ_ _ _ q=>q) q) q
theorem Ew(h:LE l p):LE (aA l) (aA p):=λL S r q=>aW (h L S) (λ_ _ _ q=>q) q
theorem EA(h:LE l p):LE (aQ l) (aQ p):=λL S r q=>aW (h L S) (λ_ _ _ q=>q) q
theorem BX(h:LE g k)(x:List P)(v:P)(q:pureOf g x=some v):pureOf k x=some v:=by
 unfold pureOf at q ⊢;cases e:g (x.map .p) [] with
 |none=>rw[e]at q;cases q
 |some z=>rw[e]at q;rw[h _ _ _ e];exact q
theorem wC(u:∀x v,w x=some v->j x=some v)(h:LE l p):LE (ae w l) (ae j p):=λL S r q=>aW (h L S) (λx a r q=>by obtain⟨v,e,rfl⟩:=j_.mp q;rw[u _ _ e];rfl) q
theorem zI(a:LE g k)(h:LE y u):LE (cF g y) (cF k u):=λL S r q=>aW (h L S) (λs x r q=>aW (a s x) (λ_ _ _ q=>q) q) q
theorem xH(a:LE g k)(h:LE y u):LE (f6 g y) (f6 k u):=λL S r q=>aW (h L S) (λs x r q=>a s x r q) q
set_option tactic.hygienic true in
theorem wB (n:∀c g,M c j=some g->∃k,C c j=some k/\LE g k) (h:LE y u):LE (dB M o j y) (dB C o j u):=fun L S r q=>aW (fun _ e=>e) (fun w a r q=>by
 cases w with
 |p v=>cases q
 |ref i=>
  cases e:a[i]? with
  |none=>simp only[e]at q;cases q
  |some t=>
   cases t with
   |ins c z l=>
    simp only[e]at q ⊢;cases m:M c j with
    |none=>simp only[m]at q;cases q
    |some g=>
     obtain⟨k,x,f⟩:=n c g m;simp only[m,x]at q ⊢;split at q
     .cases q
     .rename_i b;rw[if_neg b];exact aW (h L a) (λd s r q=>f (.ref i::d) s r q) q
   |_=>simp only[e]at q;cases q) q
set_option tactic.hygienic true in
theorem BZ {j t:gf}{f:List Nat}{n:Nat}{g:iU} (F:LE j t) (o:LE c H) (h:LE a i):LE (aU j f n g c a) (aU t f n g H i):=fun L S r q=>aW (F L S) (fun l p r q=>by
 split at q
 .rename_i d;rw[if_pos d];refine aW (q:=λK s=>some (P.lst K,s)) (λz e=>?_) (λ_ _ _ q=>q) q;clear q d;generalize jK f n L=b at e ⊢;induction l generalizing b p z with
  |nil=>exact e
  |cons x l u=>
   simp only[a_]at e ⊢;cases v:g x b with
   |none=>rw[v]at e;cases e
   |some m=>
    rw[v]at e;simp only at e ⊢;refine aW (o m p) (λw s r e=>?_) e;cases w with
    |false=>exact u _ _ _ e
    |true=>exact aW (h m s) (λy A r e=>aW (λz e=>u _ _ _ e) (λ_ _ _ q=>q) e) e
 .cases q) q
theorem EC(h:LE a i):LE (gR a) (gR i):=λL S r q=>aW (h L S) (λ_ _ _ q=>q) q
theorem EG (h:LE a i):LE (dP o a) (dP o i):=fun L S r q=>aW (fun _ e=>e) (fun w x r q=>by
 cases e:c8 w x with
 |none=>simp only[e]at q;cases q
 |some z=>simp only[e]at q ⊢;exact aW (h L x) (λ_ _ _ q=>q) q) q
theorem Hr(h:LE c H):LE (vB c) (vB H):=λL S r q=>aW (h L S) (λ_ _ _ q=>q) q
theorem HA(h:LE a i):LE (bV a) (bV i):=λL S r q=>aW (h L S) (λ_ _ _ q=>q) q
theorem HB(h:LE f e):LE (bT f) (bT e):=λL S r q=>aW (h L S) (λ_ _ _ q=>q) q
theorem HD(h:LE c H):LE (mI c) (mI H):=λL S r q=>aW (h L S) (λ_ _ _ q=>q) q
theorem HE(h:LE c H)(k:LE d A):LE (fV c d) (fV H A):=λL S r q=>aW (h L S) (λw x r q=>by cases w<;>first|exact q|exact k _ _ _ q) q
theorem HC(h:LE c H)(k:LE d A):LE (ya c d) (ya H A):=λL S r q=>aW (h L S) (λw x r q=>by cases w<;>first|exact k _ _ _ q|exact q) q
set_option tactic.hygienic true in
theorem bX(h:LE s s'):LE (cL j w s) (cL j w s'):=λx S r q=>by
 unfold cL at q ⊢;split at q
 .rename_i l;rw[if_pos l];cases e:s (x.map some++List.replicate (w-x.length) none) S with
  |none=>rw[e]at q;cases q
  |some z=>rw[e]at q;rw[h _ _ _ e];exact q
 .cases q
end
noncomputable def fg:LS:=["value_of","holds","compared","values_of","Board.family_of","Board.hands_beside","unlike_spots","replaced","without","takeable","cells_behind","whos_behind","targets_of","posted","sendings","step_ends","hand_ends"]
theorem zD:(Tb.all λd=>!(decide (d.short=("family_of":Str)) ||decide (d.short=("hands_beside":Str))) ||decide (d.name ∈ fg))=true:=by decide +kernel
theorem Er(e:Tb.find? (CP r "family_of")=some d):d.name ∈ fg:=by have x:=bj.mp zD d (qq e);have h:=mQ e;unfold CP at h;simp only[Bool.and_eq_true,decide_eq_true_eq]at h;simpa[h.1.2] using x
theorem Ep(e:Tb.find? (CP r "hands_beside")=some d):d.name ∈ fg:=by have x:=bj.mp zD d (qq e);have h:=mQ e;unfold CP at h;simp only[Bool.and_eq_true,decide_eq_true_eq]at h;simpa[h.1.2] using x
def FR(ψ ψ':Str->GF):Prop:=∀x ∈ fg,LE (ψ x) (ψ' x)
section
variable{ψ ψ':Str->GF}(h:FR ψ ψ'){x:Str}(v:x ∈ fg){l p:gf}{y u:oJ}{o:EE}
include h v
theorem Hx(k:LE l p):LE (ae (pureOf (ψ x)) l) (ae (pureOf (ψ' x)) p):=wC (BX (h x v)) k
theorem Hy(k:LE y u):LE (cF (ψ x) y) (cF (ψ' x) u):=zI (h x v) k
theorem Hz(k:LE y u):LE (f6 (ψ x) y) (f6 (ψ' x) u):=xH (h x v) k
end
variable{o:EE}
set_option tactic.hygienic true in
theorem Hu (h:FR ψ ψ') (k:LE y u):LE (dB (mT Tb ψ) o "family_of" y) (dB (mT Tb ψ') o "family_of" u):=wB (fun c g e=>by
 unfold Ev.mT at e ⊢;split at e
 .cases e
 .rename_i n;rw[if_neg n];obtain⟨d,x,rfl⟩:=j_.mp e;rw[x];exact⟨_,rfl,h _ (Er x)⟩) k
set_option tactic.hygienic true in
theorem Ht (h:FR ψ ψ') (k:LE y u):LE (dB (mT Tb ψ) o "hands_beside" y) (dB (mT Tb ψ') o "hands_beside" u):=wB (fun c g e=>by
 unfold Ev.mT at e ⊢;split at e
 .cases e
 .rename_i n;rw[if_neg n];obtain⟨d,x,rfl⟩:=j_.mp e;rw[x];exact⟨_,rfl,h _ (Ep x)⟩) k
section
variable{ψ ψ' ι ι':Str->GF}(h:FR ψ ψ')
include h
theorem cU:LE (bK ψ ι) (bK ψ' ι')/\LE (dq ψ ι) (dq ψ' ι')/\LE (bG ψ ι) (bG ψ' ι')/\LE (db ψ ι) (db ψ' ι')/\LE (bA ψ ι) (bA ψ' ι')/\LE (bW ψ ι) (bW ψ' ι')/\LE (eQ ψ ι) (eQ ψ' ι')/\LE (dS ψ ι) (dS ψ' ι')/\LE (bL ψ ι) (bL ψ' ι')/\LE (cI ψ ι) (cI ψ' ι'):=by
 refine⟨?_,?_,?_,?_,?_,?_,?_,?_,?_,?_⟩;all_goals first|unfold bK|unfold dq|unfold bG d8 aI|unfold db dh|unfold bA|unfold bW|unfold eQ eD|unfold dS eJ di eK|unfold bL fG|unfold cI cf fK
 all_goals repeat' with_reducible first|exact d5|refine Ey ?_ ?_|refine le_if ?_ ?_ ?_|refine Ex ?_|refine Ez ?_|refine BY ?_|refine EF ?_ ?_|refine BW ?_|refine Hv ?_|refine Hq ?_|refine Hs ?_ ?_|refine ED ?_ ?_|refine Eu ?_ ?_ ?_|refine Ho ?_ ?_|refine Hw ?_ ?_|refine Ew ?_|refine EA ?_|refine Hx h (by simp[fg]) ?_|refine Hu h ?_|refine Ht h ?_|refine wC (λ_ _ q=>q) ?_|refine Hy h (by simp[fg]) ?_|refine Hz h (by simp[fg]) ?_|refine BZ ?_ ?_ ?_|refine EC ?_|refine EG ?_|refine Hr ?_|refine HA ?_|refine HB ?_|refine HD ?_|refine HE ?_ ?_|refine HC ?_ ?_
end
theorem ug:Ph 1 "value_of"=cL 2 5 (bK (Ph 0) (Ph 0)):=by kernel_rfl
theorem Am:Ph 1 "holds"=cL 2 3 (dq (Ph 0) (Ph 0)):=by kernel_rfl
theorem uk:Ph 1 "compared"=cL 3 3 (bM (Ph 0) (Ph 0)):=by kernel_rfl
theorem rY:Ph 1 "values_of"=cL 2 2 (eC (Ph 0) (Ph 0)):=by kernel_rfl
theorem kj:Ph 1 "Board.family_of"=cL 2 2 (cS (Ph 0) (Ph 0)):=by kernel_rfl
theorem i3:Ph 1 "Board.hands_beside"=cL 3 3 (bv (Ph 0) (Ph 0)):=by kernel_rfl
theorem my:Ph 1 "unlike_spots"=cL 2 3 (ce (Ph 0) (Ph 0)):=by kernel_rfl
theorem uj:Ph 1 "replaced"=cL 3 3 (fm (Ph 0) (Ph 0)):=by kernel_rfl
theorem vG:Ph 1 "without"=cL 2 2 (fU (Ph 0) (Ph 0)):=by kernel_rfl
theorem uh:Ph 1 "takeable"=cL 4 10 (db (Ph 0) (Ph 0)):=by kernel_rfl
theorem mB:Ph 1 "cells_behind"=cL 4 11 (bG (Ph 0) (Ph 0)):=by kernel_rfl
theorem om:Ph 1 "whos_behind"=cL 4 4 (bA (Ph 0) (Ph 0)):=by kernel_rfl
theorem o5:Ph 1 "targets_of"=cL 5 6 (bW (Ph 0) (Ph 0)):=by kernel_rfl
theorem xY:Ph 1 "posted"=cL 5 9 (eQ (Ph 0) (Ph 0)):=by kernel_rfl
theorem ui:Ph 1 "sendings"=cL 6 18 (dS (Ph 0) (Ph 0)):=by kernel_rfl
theorem rZ:Ph 1 "step_ends"=cL 5 16 (bL (Ph 0) (Ph 0)):=by kernel_rfl
theorem r9:Ph 1 "hand_ends"=cL 3 11 (cI (Ph 0) (Ph 0)):=by kernel_rfl
theorem lv:∀n:Nat,FR (Ph n) (Ph (n+1))
 |0=>λx _ L S r q=>by cases (show(none:Option (D×aD))=some r from q)
 |1=>λx v=>by
  have i:=lv 0;simp only[fg,bq,eZ,eX]at v;rcases v with rfl|rfl|rfl|rfl|rfl|rfl|rfl|rfl|rfl|rfl|rfl|rfl|rfl|rfl|rfl|rfl|rfl
  .rw [ug,cA 0];exact bX (cU i).1
  .rw [Am,eW 0];exact bX (cU i).2.1
  .rw [uk,gp 0];exact bX (by unfold bM;exact d5)
  .rw [rY,fO 0];exact bX (by unfold eC;exact d5)
  .rw [kj,b_ 0];exact bX (by unfold cS;exact d5)
  .rw [i3,cc 0];exact bX (by unfold bv;exact d5)
  .rw [my,cV 0];exact bX (by unfold ce;exact d5)
  .rw [uj,gn 0];exact bX (by unfold fm;exact d5)
  .rw [vG,g6 0];exact bX (by unfold fU;exact d5)
  .rw [uh,fj 0];exact bX (cU i).2.2.2.1
  .rw [mB,cX 0];exact bX (cU i).2.2.1
  .rw [om,cx 0];exact bX (cU i).2.2.2.2.1
  .rw [o5,cW 0];exact bX (cU i).2.2.2.2.2.1
  .rw [xY,gN 0];exact bX (cU i).2.2.2.2.2.2.1
  .rw [ui,gm 0];exact bX (cU i).2.2.2.2.2.2.2.1
  .rw [rZ,eB 0];exact bX (cU i).2.2.2.2.2.2.2.2.1
  .rw [r9,fP 0];exact bX (cU i).2.2.2.2.2.2.2.2.2
 |n+2=>λx v=>by
  have i:=lv (n+1);simp only[fg,bq,eZ,eX]at v;rcases v with rfl|rfl|rfl|rfl|rfl|rfl|rfl|rfl|rfl|rfl|rfl|rfl|rfl|rfl|rfl|rfl|rfl
  .rw [cA n,cA (n+1)];exact bX (cU i).1
  .rw [eW n,eW (n+1)];exact bX (cU i).2.1
  .rw [gp n,gp (n+1)];exact bX (by unfold bM;exact d5)
  .rw [fO n,fO (n+1)];exact bX (by unfold eC;exact d5)
  .rw [b_ n,b_ (n+1)];exact bX (by unfold cS;exact d5)
  .rw [cc n,cc (n+1)];exact bX (by unfold bv;exact d5)
  .rw [cV n,cV (n+1)];exact bX (by unfold ce;exact d5)
  .rw [gn n,gn (n+1)];exact bX (by unfold fm;exact d5)
  .rw [g6 n,g6 (n+1)];exact bX (by unfold fU;exact d5)
  .rw [fj n,fj (n+1)];exact bX (cU i).2.2.2.1
  .rw [cX n,cX (n+1)];exact bX (cU i).2.2.1
  .rw [cx n,cx (n+1)];exact bX (cU i).2.2.2.2.1
  .rw [cW n,cW (n+1)];exact bX (cU i).2.2.2.2.2.1
  .rw [gN n,gN (n+1)];exact bX (cU i).2.2.2.2.2.2.1
  .rw [gm n,gm (n+1)];exact bX (cU i).2.2.2.2.2.2.2.1
  .rw [eB n,eB (n+1)];exact bX (cU i).2.2.2.2.2.2.2.2.1
  .rw [fP n,fP (n+1)];exact bX (cU i).2.2.2.2.2.2.2.2.2
theorem Hn(h:n≤w):FR (Ph n) (Ph w):=by
 obtain⟨k,rfl⟩:=Nat.exists_eq_add_of_le h;clear h;induction k with
 |zero=>exact λ_ _=>d5
 |succ k i=>exact λx v L S r q=>lv (n+k) x v L S r (i x v L S r q)
end My
namespace My
open PySem L2 Ev
noncomputable abbrev aB(B:BD):P:=.tup [.lst B.fams,.lst B.roads,.lst B.wishes]
noncomputable def gi:P->List P
 | .tup [_,_,_,_,_,.lst s]=>s
 |_=>[]
structure FOk(B:BD)(k:Nat)(x:P)(rds:List P)(F:P->List yf):Prop where
 st:∀f,(aq B.fams)[k]? = some f->∃nm crew rooms cells whos steps,f=df nm crew rooms cells whos steps/\Fam B.roads nm crew rooms cells whos steps/\∃(r:Nat)(cs ws:List P),x=.tup [.int (r:Int),.tup cs,.tup ws]/\∀s ∈ steps,StpL B 12 f rooms cells cs ws rds r s (F s)
 on:∀f,(aq B.fams)[k]? = some f->∀{hs:List P},StL B hs rds->hs[k]? = some x->((gi f).flatMap λs=>sT hs k s (F s)).length≤6144/\∀(b i:Nat)(S:aD),Bd B b i S->∃d S',Ph 12 "hand_ends" [.ref i,.p (.tup [.tup hs,.tup rds]),.p (.int (k:Int))] S=some (d,S')/\Fr b S S'/\ku S S' d ((gi f).flatMap λs=>sT hs k s (F s))
noncomputable def FF(B:BD)(k:Nat)(x:P)(p:List P):P->List yf:=@dite _ (∃F,FOk B k x p F) (Classical.propDecidable _) (λh=>Classical.choose h) λ_ _=>[]
variable{B:BD}{k:Nat}{p:List P}
theorem qa(S:Pln B.fams B.roads B.wishes)(L:Places B)(q:(aq B.fams)[k]? = some f)(z:hY f x)(I:bb B p):FOk B k x p (FF B k x p):=by
 have h:∃F,FOk B k x p F:=by
  obtain⟨K,w,o,l,m,s,H,rfl⟩:=ig S.hf (bH q);obtain⟨_,_,_,_,_,_,t,r,A,J,rfl,i,g,y,j⟩:=z;obtain⟨rfl,u,rfl,rfl,rfl,rfl⟩:K=_/\w=_/\o=_/\l=_/\m=_/\s=_:=by simp only[P.tup.injEq,bN,P.str.injEq,P.int.injEq,P.lst.injEq,cD]at t;obtain⟨a,b,c,d,e,f⟩:=t;exact⟨a,lb b,c,d,e,f⟩
  subst u;obtain⟨F,D,E⟩:=HK S L (n:=12) (by lia) H q i g y j I;refine⟨F,λC e=>?_,λC e {v} G z=>?_⟩
  .cases q.symm.trans e;exact⟨K,w,o,l,m,s,rfl,H,r,A,J,rfl,D⟩
  .cases q.symm.trans e;exact E G z
 unfold FF;rw[dif_pos h];exact Classical.choose_spec h
def uO(B:BD)(v p:List P)(k:Nat):List P:=match (aq B.fams)[k]?,v[k]? with
 |some f,some x=>(gi f).flatMap λs=>sT v k s (FF B k x p s)
 |_,_=>[]
variable{v:List P}
theorem StL.at(S:StL B v p)(e:k < (aq B.fams).length):∃f x,(aq B.fams)[k]? = some f/\v[k]? = some x/\hY f x:=by have h:=cK e;have a:v[k]? = some (v[k]'(by rw[S.hl];exact e)):=cK _;exact⟨_,_,h,a,S.hh k _ _ h a⟩
theorem AM(P:Pln B.fams B.roads B.wishes)(L:Places B)(a:StL B v p):HL B v p (uO B v p):=λk w=>by
 obtain⟨f,x,h,n,t⟩:=a.at w;have F:=qa P L h t a.hr;obtain⟨l,g⟩:=F.on f h a n;have e:uO B v p k=(gi f).flatMap λs=>sT v k s (FF B k x p s):=by unfold uO;rw[h,n]
 rw[e];refine⟨l,λm u b i S q=>?_⟩;obtain⟨d,c,e,r⟩:=g b i S q;exact⟨d,c,Hn u "hand_ends" (by simp[fg]) _ _ _ e,r⟩
def dE(v:List P)(k:Nat)(s:P)(t:yf)(h:P)(a m:List P):P:=.tup [.tup [.str "step",.int (k:Int),.str (aC s),t.1,.tup a],.tup [.tup (v.set k h),.tup m]]
structure StE(B:BD)(hs rds:List P)(k:Nat)(f x s:P)(t:yf)(h':P)(as rs:List P):Prop where
 hf:(aq B.fams)[k]? = some f
 hx:hs[k]? = some x
 hs:s ∈ gi f
 ht:t ∈ FF B k x rds s
 ho:t.2.1=some h'
 hw:.tup [.tup as,.tup rs] ∈ t.2.2
abbrev gS(B:BD)(v p:List P):List P:=kO B (uO B v p)++dL B v p "lose"++dL B v p "double"
theorem rg(P:Pln B.fams B.roads B.wishes)(L:Places B)(S:StL B v p):z ∈ kO B (uO B v p)↔∃k f x s t b n m,StE B v p k f x s t b n m/\z=dE v k s t b n m:=by
 constructor
 .intro h;obtain⟨k,C,a⟩:=cw.mp h;obtain⟨f,x,q,y,K⟩:=S.at (dF.mp C);have e:uO B v p k=(gi f).flatMap λs=>sT v k s (FF B k x p s):=by unfold uO;rw[q,y]
  rw[e]at a;clear e;obtain⟨G,j,g,l,F,i,rfl,E,r,D,I,rfl,d⟩:=(qa P L q K S.hr).st f q;obtain⟨s,c,u⟩:=cw.mp a;clear a;obtain⟨t,H,a⟩:=cw.mp u;obtain⟨T,A⟩:=((d s c).ok t H).2.2.1;unfold ye at a;cases o:t.2.1 with
  |none=>rw[o]at a;cases a
  |some b=>rw[o]at a;obtain⟨w,hw,rfl⟩:=aX.mp a;obtain⟨n,m,rfl,_⟩:=A w hw;exact⟨k,_,_,s,t,b,n,m,⟨q,y,c,H,o,hw⟩,rfl⟩
 .rintro ⟨k,f,x,s,t,b,n,m,h,rfl⟩;refine cw.mpr ⟨k,dF.mpr (aY h.hf),?_⟩;have e:uO B v p k=(gi f).flatMap λs=>sT v k s (FF B k x p s):=by unfold uO;rw[h.hf,h.hx]
  rw[e];refine cw.mpr ⟨s,h.hs,cw.mpr ⟨t,h.ht,?_⟩⟩;unfold ye;rw[h.ho];exact aX.mpr ⟨_,h.hw,rfl⟩
noncomputable abbrev oI:P->P:=λy=>match y with | .tup (d::_)=>d|_=>.non
def dNe(z h:P):Prop:=oI z≠oI h
theorem nE{B:BD}{v:List P}{hd:Nat}{x:Str}{y:P}{o:Option P}{W:List P}(h:∃T,∀w ∈ W,je B T w){z:P}(s:z ∈ ye v hd x y o W):∃a e,z=.tup [.tup [.str "step",.int (hd:Int),.str x,y,.tup a],e]:=by
 obtain⟨T,n⟩:=h;unfold ye at s;cases o with
 |none=>cases s
 |some k=>obtain⟨w,hw,rfl⟩:=aX.mp s;obtain⟨a,m,rfl,_⟩:=n w hw;exact⟨a,_,rfl⟩
theorem z4(P:Pln B.fams B.roads B.wishes)(L:Places B)(S:StL B v p)(j:k < (aq B.fams).length)(h:z ∈ uO B v p k):∃x y a e,z=.tup [.tup [.str "step",.int (k:Int),.str x,y,.tup a],e]:=by
 obtain⟨f,x,n,g,i⟩:=S.at j;have e:uO B v p k=(gi f).flatMap λs=>sT v k s (FF B k x p s):=by unfold uO;rw[n,g]
 rw[e]at h;obtain⟨K,w,o,c,u,d,rfl,F,r,H,A,rfl,m⟩:=(qa P L n i S.hr).st f n;obtain⟨s,b,q⟩:=cw.mp h;clear h;obtain⟨t,l,h⟩:=cw.mp q;obtain⟨a,e,rfl⟩:=nE ((m s b).ok t l).2.2.1 h;exact⟨_,_,a,e,rfl⟩
theorem GN(H:Pln B.fams B.roads B.wishes)(L:Places B)(S:StL B v p):(kO B (uO B v p)).Pairwise dNe:=by
 refine iw.mpr ⟨λk U=>?_,(j5 (n:=(aq B.fams).length)).imp_of_mem λ{a b} u g c x i y j q=>?_⟩
 .obtain⟨f,x,o,O,Q⟩:=S.at (dF.mp U);have e:uO B v p k=(gi f).flatMap λs=>sT v k s (FF B k x p s):=by unfold uO;rw[o,O]
  rw[e];obtain⟨nm,G,D,z,J,E,rfl,R,r,M,Y,rfl,d⟩:=(qa H L o Q S.hr).st f o;generalize FF B k (.tup [.int (r:Int),.tup M,.tup Y]) p=F at d;refine iw.mpr ⟨λs K=>?_,R.sd.imp_of_mem λ{a b} u g c x i y j q=>?_⟩
  .have h:=d s K;refine iw.mpr ⟨λt A=>?_,(j6.mp h.un).imp_of_mem λ{a b} u g c x i y j q=>?_⟩
   .obtain⟨_,_,⟨T,I⟩,V⟩:=h.ok t A;unfold ye;cases t.2.1 with
    |none=>exact .nil
    |some Z=>refine j6.mpr (V.imp_of_mem λ{a b} u g c q=>?_);obtain⟨l,m,rfl,_⟩:=I a u;obtain⟨w,W,rfl,_⟩:=I b g;simp only[vA,P.tup.injEq,bN,cD,jy]at q;exact c l w _ _ rfl rfl q
   .obtain⟨l,e,rfl⟩:=nE (h.ok a u).2.2.1 i;obtain⟨w,N,rfl⟩:=nE (h.ok b g).2.2.1 j;simp only[P.tup.injEq,bN,cD,jy]at q;exact c q.1
  .obtain⟨t,A,i⟩:=cw.mp i;obtain⟨X,C,j⟩:=cw.mp j;obtain⟨l,e,rfl⟩:=nE ((d a u).ok t A).2.2.1 i;obtain⟨w,N,rfl⟩:=nE ((d b g).ok X C).2.2.1 j;simp only[P.tup.injEq,bN,P.str.injEq,cD,jy]at q;exact c q.1
 .obtain⟨_,_,_,_,rfl⟩:=z4 H L S (dF.mp u) i;obtain⟨_,_,_,_,rfl⟩:=z4 H L S (dF.mp g) j;simp only[P.tup.injEq,bN,P.int.injEq,cD,jy]at q;exact c (lb q.1)
def Iu(x y:P):Prop:=∀r h:P,∀a c:Nat,x=pr r a c->y=pr h a c->False
variable{N:LS}
theorem wT(h:i ∈ bS N s):N[i]? = some s:=of_decide_eq_true (fy.mp h).2
theorem ly(h:pr r a c=pr s x e):a=x/\c=e:=by simp only[pr,P.tup.injEq,bN,P.int.injEq,cD]at h;exact⟨by lia,by lia⟩
theorem wo(h:x ∈ uM N r):∃a c,x=pr r a c/\N[a]? = some (rA r)/\N[c]? = some (rB r):=by obtain⟨a,e,h⟩:=cw.mp h;obtain⟨c,s,rfl⟩:=aX.mp h;exact⟨a,c,rfl,wT e,wT (fy.mp s).1⟩
theorem DY(h:o.Pairwise RD):(a8 N o).Pairwise Iu:=by
 refine iw.mpr ⟨λr _=>iw.mpr ⟨λa _=>j6.mpr ?_,?_⟩,h.imp λ{r H} i x f y b q d a c e s=>?_⟩
 .refine ((na N (rB r)).filter _).imp λ{c w} g q d m t e s=>g ?_;have n:=ly e;have k:=ly s;lia
 .refine (na N (rA r)).imp λ{a j} u x f y b q d m t e s=>u ?_;obtain⟨c,_,rfl⟩:=aX.mp f;obtain⟨w,_,rfl⟩:=aX.mp b;have n:=ly e;have k:=ly s;lia
 .obtain⟨l,z,rfl,n,k⟩:=wo f;obtain⟨m,t,rfl,p,v⟩:=wo b;obtain⟨rfl,rfl⟩:=ly e;obtain⟨rfl,rfl⟩:=ly s;rw[n]at p;rw[k]at v;exact i ⟨Option.some.inj p,Option.some.inj v⟩
theorem Fq{B:BD}(m:Pln B.fams B.roads B.wishes){k x:Nat}{r e:P}{a c:Nat}(h:B.PR[k]? = some (pr r a c))(b:B.PR[x]? = some (pr e a c)):k=x:=by
 have p:B.PR.Pairwise Iu:=DY m.rd;rw[uU]at p;obtain⟨l,s⟩:=List.getElem?_eq_some_iff.mp h;obtain⟨f,n⟩:=List.getElem?_eq_some_iff.mp b;rcases Nat.lt_trichotomy k x with q|q|q
 .exact (p k x l f q r e a c s n).elim
 .exact q
 .exact (p x k f l q e r a c n s).elim
theorem wJ(x:Pln B.fams B.roads B.wishes)(S:StL B v p)(w:Str)(f:k < B.PR.length):∃(r:P)(a c:Nat)(s:List P)(l:List Nat),B.PR[k]? = some (pr r a c)/\l.Pairwise (·≠·)/\C5 v p w (.tup [.int (k:Int),(B.PR[k]?).getD .non])=l.map (jP v p w k (.int (a:Int)) (.int (c:Int)) s):=by
 have h:=cK f;obtain⟨road,s,a,c,d,_,e,_,_,_,_,_,_,F⟩:=vr x S w h;rw[e]at h;rw[h];refine⟨road,a,c,s,if vn w road s=true then qN d s else [],rfl,?_,?_⟩
 .split
  .exact (j5 (n:=s.length)).filter _
  .exact .nil
 .rw [Option.getD_some,<- e,F];split<;>rfl
theorem C4(s:Pln B.fams B.roads B.wishes)(S:StL B v p)(w:Str):(dL B v p w).Pairwise dNe:=by
 unfold dL;rw[wM,nh];refine iw.mpr ⟨λk F=>?_,(j5 (n:=B.PR.length)).imp_of_mem λ{i j} o H f x b y m q=>?_⟩
 .obtain⟨r,a,c,A,l,_,K,e⟩:=wJ s S w (dF.mp F);rw[e];refine j6.mpr (K.imp λ{i j} h q=>h ?_);simp only[jP,P.tup.injEq,bN,P.int.injEq,cD,jy]at q;exact lb q
 .obtain⟨r,a,c,A,l,g,_,e⟩:=wJ s S w (dF.mp o);obtain⟨G,t,d,C,E,z,_,u⟩:=wJ s S w (dF.mp H);rw[e]at b;rw[u]at m;obtain⟨I,_,rfl⟩:=aX.mp b;obtain⟨D,_,rfl⟩:=aX.mp m;simp only[jP,P.tup.injEq,bN,P.int.injEq,cD,jy]at q;obtain⟨rfl,rfl⟩:a=t/\c=d:=⟨lb q.1,lb q.2.1⟩;exact f (Fq s g z)
theorem AJ(f:Pln B.fams B.roads B.wishes)(L:Places B)(S:StL B v p):(gS B v p).Pairwise dNe:=by
 have n:∀{w:Str}{z:P},z ∈ dL B v p w->∃r e,z=.tup [.tup (.str w::r),e]:=λ{w z} h=>by unfold dL at h;rw[wM,nh]at h;obtain⟨k,b,h⟩:=cw.mp h;obtain⟨r,a,c,d,l,_,_,e⟩:=wJ f S w (dF.mp b);rw[e]at h;obtain⟨u,_,rfl⟩:=aX.mp h;exact⟨_,_,rfl⟩
 have hw:("step":Str)≠"lose"/\("step":Str)≠"double"/\("lose":Str)≠"double":=by decide +kernel
 have t:∀{z:P},z ∈ kO B (uO B v p)->∃r e,z=.tup [.tup (.str "step"::r),e]:=λ{z} h=>by obtain⟨k,b,h⟩:=cw.mp h;obtain⟨_,_,_,_,rfl⟩:=z4 f L S (dF.mp b) h;exact⟨_,_,rfl⟩
 refine qI.mpr ⟨qI.mpr ⟨GN f L S,C4 f S _,λx s y m q=>?_⟩,C4 f S _,λx s y m q=>?_⟩
 .obtain⟨_,_,rfl⟩:=t s;obtain⟨_,_,rfl⟩:=n m;simp only[P.tup.injEq,bN,P.str.injEq]at q;exact hw.1 q.1
 .obtain⟨_,_,rfl⟩:=n m;rcases du.mp s with s|s
  .obtain⟨_,_,rfl⟩:=t s;simp only[P.tup.injEq,bN,P.str.injEq]at q;exact hw.2.1 q.1
  .obtain⟨_,_,rfl⟩:=n s;simp only[P.tup.injEq,bN,P.str.injEq]at q;exact hw.2.2 q.1
section
variable{m:List P}
theorem jg(h:∀f ∈ a,ey m f)(l:a.length≤4):(aq a).length≤16:=by have:=vm 0 h;unfold aq;simp;lia
theorem wx(n t:Str->GF)(w:P):∀(s:List P)(k:Nat)(a:List P)(g:Option D),(∀f ∈ s,ey m f)->a.length+4 * s.length≤1000 ->
  ∃q,aR (ag 2) (d7 n t) s [qp w,ql a,g] []=some (.nx,[qp w,ql (a++(hw k s).map (·.2)),q],[])
 | [],k,a,g,_,_=>⟨g,by simp[aR,hw]⟩
 |f::r,k,a,g,h,S=>by
  obtain⟨A,c,o,l,u,v,H,rfl⟩:=h f List.mem_cons_self;have B:=H.hcr.2;simp only[bc]at S;generalize z:P.tup [.str A,.int (c:Int),.lst o,.lst l,.lst u,.lst v]=F;have j:al F (.int 1)=some (.int (c:Int)):=by rw[<- z];simp
  have i:f8 F=c:=by rw[<- z];simp[f8]
  obtain⟨q,e⟩:=wx n t w r (k+1) (a++List.replicate c F) (qp F) (λx K=>h x (aS _ K)) (by simp;lia);refine⟨q,?_⟩;have y:(hw k (F::r)).map (·.2)=List.replicate c F++(hw (k+1) r).map (·.2):=by simp[hw,i]
  rw[y,<- List.append_assoc];refine(bu (y:=[qp w,ql a,qp F]) (L2:=[qp w,ql (a++List.replicate c F),qp F]) (J:=[]) rfl ?_).trans e;have d:c≤1000000:=by lia
  have p:c < 1000000:=by lia
  have b:a.length+c≤1000000:=by lia
  simp[d7,j,d,p,b]
theorem rk(n:2≤x)(h:∀f ∈ a,ey m f)(l:a.length≤4)(r w:P):pureOf (Ph x "_law_families") [.tup [.lst a,r,w]]=some (.lst (aq a)):=by obtain⟨x,rfl⟩:=fF (n:=x) (by first|assumption|lia);obtain⟨q,e⟩:=wx (Ph (x+1)) (Ph x) (.tup [.lst a,r,w]) a 0 [] none h (by simp;lia);rw[lL,ah];simp only[fX]at e;simp[io,e,aq]
theorem pW(A:3≤x)(h:∀f ∈ r,ey m f)(d:r.length≤4)(n k:P)(s:Str) :
  pureOf (Ph x "_law_crew") [.tup [.lst r,n,k],.str s]=some (.lst ((bS (ao r) s).map λ(i:Nat)=>P.int (i:Int))):=by
 obtain⟨x,rfl⟩:=fF (n:=x) (by first|assumption|lia);have g:=rk (x:=x+1) (by lia) h d n k;have u:=jg h d;have j:a_ (aP [ag 2,ag 3]) (bV (az dC (eV (ab al (vv 3) (vi 0))) (aa 1))) (vv 2) (bf 0 (aq r)) [qt [.lst r,n,k],qs s,none,none] [] =
   some (((bf 0 (aq r)).filter λv=>match v with | .tup [_,f]=>decide (aC f=s)|_=>false).map (λv=>match v with | .tup [i,_]=>i|_=>.non),[]):=by
  refine bx (Inv:=λL=>∃a b,L=[qt [.lst r,n,k],qs s,a,b]) (λv F L y=>?_) ⟨none,none,rfl⟩;obtain⟨a,b,rfl⟩:=y;obtain⟨i,p,e⟩:=lj.mp F;obtain⟨f,z,rfl⟩:=eA (s:=aq r) (i:=i) (v:=v) (by rw[cK p,e]);obtain⟨K,c,o,l,w,t,H,rfl⟩:=ig h (bH z);exact⟨[qt [.lst r,n,k],qs s,qi (i:Int),qt [.str K,.int (c:Int),.lst o,.lst l,.lst w,.lst t]],rfl,⟨_,_,rfl⟩,by simp[aC];first|done|exact decide_eq_decide.mpr Iff.rfl,λ_=>by simp⟩
 have S:(bf 0 (aq r)).length≤1000000:=by rw[dn];lia
 rw[rV,ah];simp[k6,aU,g,S,jK,j];rw[wM];unfold bS ao;rw[mP,j1,a9];congr 1;refine List.filter_congr λi p=>?_;have q:i < (aq r).length:=by simpa using p
 simp[q]
theorem Ky(n t:Str->GF)(p road:P)(x:Nat):∀(os:List Nat)(a:List P)(s:Option D),a.length+os.length≤100000->∃q,aR (ag 4) (dU n t) (bn os) [qp p,qr 0,qp road,qi (x:Int),s] [.lst (a.map .p)] =
   some (.nx,[qp p,qr 0,qp road,qi (x:Int),q],[.lst ((a++(os.filter λo=>!decide (x=o)).map λo=>pr road x o).map .p)])
 | [],a,s,_=>⟨s,by simp[bn,aR]⟩
 |o::os,a,s,f=>by
  simp only[bc]at f;by_cases h:x=o
  .obtain⟨q,e⟩:=Ky n t p road x os a (qi (o:Int)) (by lia);refine⟨q,?_⟩;have k:(o::os).filter (λo=>!decide (x=o))=os.filter λo=>!decide (x=o):=by simp[h]
   rw[k];refine(bu (y:=[qp p,qr 0,qp road,qi (x:Int),qi (o:Int)]) (L2:=[qp p,qr 0,qp road,qi (x:Int),qi (o:Int)]) (J:=[.lst (a.map .p)]) rfl ?_).trans e;simp[dU,h]
  .obtain⟨q,e⟩:=Ky n t p road x os (a++[pr road x o]) (qi (o:Int)) (by simp;lia);refine⟨q,?_⟩;have k:((o::os).filter (λo=>!decide (x=o))).map (λo=>pr road x o)=pr road x o::(os.filter λo=>!decide (x=o)).map λo=>pr road x o:=by simp[h]
   rw[k,show a++pr road x o::(os.filter λo=>!decide (x=o)).map (λo=>pr road x o)=a++[pr road x o]++(os.filter λo=>!decide (x=o)).map (λo=>pr road x o) by simp];refine(bu (y:=[qp p,qr 0,qp road,qi (x:Int),qi (o:Int)]) (L2:=[qp p,qr 0,qp road,qi (x:Int),qi (o:Int)]) (J:=[.lst ((a++[pr road x o]).map .p)]) rfl ?_).trans e;have z:¬(x:Int)=(o:Int):=by lia
   have l:a.length≤1000000:=by lia
   rw[<- cm];simp[dU,h,z,c8,l,pr]
theorem Ll(g:3≤h)(d:∀f ∈ s,ey m f)(l:s.length≤4)(r w:P)(j:fE road):∀(k:List Nat)(x:List P)(v e:Option D),x.length+16 * k.length≤50000->∃q n,aR (ag 3) (im (Ph h) (Ph (h-1))) (bn k) [qt [.lst s,r,w],qr 0,qp road,v,e] [.lst (x.map .p)] =
   some (.nx,[qt [.lst s,r,w],qr 0,qp road,q,n],[.lst ((x++k.flatMap λt=>((bS (ao s) (rB road)).filter λo=>!decide (t=o)).map λo=>pr road t o).map .p)])
 | [],x,v,e,_=>⟨v,e,by simp[bn,aR]⟩
 |i::k,x,v,e,A=>by simp only[bc]at A;have F:(bS (ao s) (rB road)).length≤16:=aM (dR _ _) (by unfold ao;rw[a9];exact jg d l);obtain⟨n,u⟩:=Ky (Ph h) (Ph (h-1)) (.tup [.lst s,r,w]) road i (bS (ao s) (rB road)) x e (by lia);have B:=qR i road (bS (ao s) (rB road));obtain⟨q,p,H⟩:=Ll g d l r w j k (x++((bS (ao s) (rB road)).filter λo=>!decide (i=o)).map λo=>pr road i o) (qi (i:Int)) n (by rw[cJ];lia);refine⟨q,p,?_⟩;rw[hE,<- List.append_assoc];refine(bu (y:=[qt [.lst s,r,w],qr 0,qp road,qi (i:Int),e]) rfl ?_).trans H;obtain⟨a,b,C,c,y,z,E,G,K,_,_,rfl⟩:=j;have S:=pW g d l r w b;simp only[rB]at u;show b6 _ _ _ _ _=_;simp only[bC];rw[show gR (ae (pureOf (Ph h "_law_crew")) (v2 (vv 0) (ab al (vv 2) (vi 1)))) [qt [.lst s,r,w],qr 0,qt [.str a,.str b,.str C,.int c,.bl y,.bl z],qi (i:Int),e] [.lst (x.map .p)]=some (bn (bS (ao s) b),[.lst (x.map .p)]) by simp[S,bn]];exact u
theorem Lk(z:3≤x)(i:∀f ∈ s,ey m f)(l:s.length≤4)(p w:P):∀(o:List P)(e:List P)(j q k:Option D),(∀r ∈ o,fE r)->e.length+256 * o.length≤10000->∃H n t,aR (ag 2) (il (Ph x) (Ph (x-1))) o [qt [.lst s,p,w],qr 0,j,q,k] [.lst (e.map .p)] =
   some (.nx,[qt [.lst s,p,w],qr 0,H,n,t],[.lst ((e++a8 (ao s) o).map .p)])
 | [],e,j,q,k,_,_=>⟨j,q,k,by simp[a8,aR]⟩
 |road::o,e,j,q,k,F,I=>by
  simp only[bc]at I;have N:(ao s).length≤16:=by unfold ao;rw[a9];exact jg i l
  have E:(bS (ao s) (rA road)).length≤16:=aM (dR _ _) N;have y:(bS (ao s) (rB road)).length≤16:=aM (dR _ _) N;have v:=F road List.mem_cons_self;obtain⟨n,t,S⟩:=Ll z i l p w v (bS (ao s) (rA road)) e q k (by lia);have J:(uM (ao s) road).length≤256:=by have:=qX (ao s) road _ y (bS (ao s) (rA road));unfold uM;lia
  obtain⟨d,u,g,B⟩:=Lk z i l p w o (e++uM (ao s) road) (qp road) n t (λr h=>F r (aS _ h)) (by rw[cJ];lia);refine⟨d,u,g,?_⟩;rw[show a8 (ao s) (road::o)=uM (ao s) road++a8 (ao s) o by simp[a8],<- List.append_assoc];refine(bu (y:=[qt [.lst s,p,w],qr 0,qp road,q,k]) rfl ?_).trans B;obtain⟨a,b,L,c,K,A,M,O,G,_,_,rfl⟩:=v;have C:=pW z i l p w a;simp only[rA]at S;show b6 _ _ _ _ _=_;simp only[bC];rw[show gR (ae (pureOf (Ph x "_law_crew")) (v2 (vv 0) (ab al (vv 2) (vi 0)))) [qt [.lst s,p,w],qr 0,qt [.str a,.str b,.str L,.int c,.bl K,.bl A],q,k] [.lst (e.map .p)]=some (bn (bS (ao s) a),[.lst (e.map .p)]) by simp[C,bn]];exact S
theorem BS(n:4≤x)(h:Pln f r w):pureOf (Ph x "_law_pairs") [.tup [.lst f,.lst r,.lst w]]=some (.lst (a8 (ao f) r)):=by
 obtain⟨x,rfl⟩:=fF (n:=x) (by first|assumption|lia);have:=h.rl
 obtain⟨q,a,s,e⟩:=Lk (x:=x+1) (by lia) h.hf h.f0.2 (.lst r) (.lst w) r [] none none none h.hr (by simp;lia);rw[oY,ah];simp only[fX,gB,j7]at e;simp[jV,e]
end
theorem wa:∀s:List P,Cz (s.map .p)=some s
 | []=>rfl
 |x::s=>by simp[Cz,wa s]
variable{n:Str->GF}{t:Str->GF}
theorem yO(U:∀c ∈ l,l_ c)(hl:l.length≤3)(d:Int)(S:aD)(H F K A B C:Option D)(q s f m r p y o:Option D) :
  ∃(O:List P)(u j:Option D),CellsOk l O/\aR (aP [ag 8,ag 9]) (cR n t) (bf 0 l) [H,F,K,A,B,C,qi d,qr S.length,y,o,q,s,f,m,r,p] (S++[.lst []])=some (.nx,[H,F,K,A,B,C,qi d,qr S.length,u,j,q,s,f,m,r,p],S++[.lst (O.map .p)]):=by
 obtain⟨X,J,e,w,u,j,I,N,rfl,rfl⟩:=bw (g:=aP [ag 8,ag 9]) (b:=cR n t) (Inv:=fun i L J=>∃(w:List P) (y o:Option D),w.length=i/\(∀c ∈ w,∃i:Int,i.natAbs≤999/\c=.int i)/\L=[H,F,K,A,B,C,qi d,qr S.length,y,o,q,s,f,m,r,p]/\J=S++[.lst (w.map .p)]) (s:=bf 0 l) (k:=0) (L:=[H,F,K,A,B,C,qi d,qr S.length,y,o,q,s,f,m,r,p]) (S:=S++[.lst []]) (fun i v L J V T=>by
  obtain⟨c,E,rfl⟩:=eA V;have hi:=aY E;obtain⟨x,lo,a,M,_,Y,Z,b3,b4,rfl⟩:=U c (bH E);obtain⟨w,y,o,I,N,rfl,rfl⟩:=T;obtain⟨z,W,R⟩:∃z:Int,(0 < z/\z < 1152921504606846976)/\L2.atI [P.int 8,.int 32,.int 128] (i:Int)=some (.int z):=by
   have:i=0\/i=1\/i=2:=by lia
   rcases this with rfl|rfl|rfl
   .exact⟨8,by decide,by simp⟩
   .exact⟨32,by decide,by simp⟩
   .exact⟨128,by decide,by simp⟩
  have Q:0 < a-lo+1:=by lia
  have m0:0≤d / z % (a-lo+1):=dt _ (by lia);have m1:d / z % (a-lo+1) < a-lo+1:=dZ _ Q;have G:w.length≤1000000:=by lia
  refine⟨_,[H,F,K,A,B,C,qi d,qr S.length,qi (i:Int),qt [.str x,.int lo,.int a,.int M],q,s,f,m,r,p],S++[.lst ((w++[P.int (lo+d / z % (a-lo+1))]).map .p)],rfl,?_,_,_,_,by simp[I],cC N ⟨_,by lia,rfl⟩,rfl,rfl⟩;rw[<- cm];simp[cR,R,W,Q,c8,G]) ⟨[],y,o,rfl,λ_ h=>(by cases h),rfl,rfl⟩
 rw[dn,eN]at I;exact⟨w,u,j,⟨I,N⟩,e⟩
theorem Bh(m:Nat)(T:m≤2)(l:List P)(d:Int)(S:aD)(u j y o H F:Option D)(A q x a s f p:Option D) :
  ∃(G:List P)(r:Option D),G.length=m/\(∀w ∈ G,mu w)/\aR (ag 8) (cQ n t) (intsFrom 0 m) [u,j,y,ql l,o,H,qi d,F,p,A,qr S.length,q,x,a,s,f] (S++[.lst []])=some (.nx,[u,j,y,ql l,o,H,qi d,F,r,A,qr S.length,q,x,a,s,f],S++[.lst (G.map .p)]):=by
 obtain⟨Q,C,e,c,r,B,E,rfl,rfl⟩:=bw (g:=ag 8) (b:=cQ n t) (Inv:=fun i L C=>∃(c:List P) (p:Option D),c.length=i/\(∀w ∈ c,mu w)/\L=[u,j,y,ql l,o,H,qi d,F,p,A,qr S.length,q,x,a,s,f]/\C=S++[.lst (c.map .p)]) (s:=intsFrom 0 m) (k:=0) (L:=[u,j,y,ql l,o,H,qi d,F,p,A,qr S.length,q,x,a,s,f]) (S:=S++[.lst []]) (fun i v L C N J=>by
  obtain⟨rfl,R⟩:=ints_get N;obtain⟨c,p,B,E,rfl,rfl⟩:=J;simp only[c6];obtain⟨z,O,I⟩:∃z:Int,(0 < z/\z < 1152921504606846976)/\L2.atI [P.int 512,.int 4096] (i:Int)=some (.int z):=by
   have:i=0\/i=1:=by lia
   rcases this with rfl|rfl
   .exact⟨512,by decide,by simp⟩
   .exact⟨4096,by decide,by simp⟩
  have M:(0:Int) < (l.length:Int)+1:=by lia
  have K:c.length≤1000000:=by lia
  refine⟨_,[u,j,y,ql l,o,H,qi d,F,qi (i:Int),A,qr S.length,q,x,a,s,f],S++[.lst ((c++[P.int (d / z % ((l.length:Int)+1)-1)]).map .p)],rfl,?_,_,_,by simp[B],cC E ⟨_,rfl⟩,rfl,rfl⟩;rw[<- cm];simp[cQ,I,O,M,b7,cy,c8,K]) ⟨[],p,rfl,λ_ h=>(by cases h),rfl,rfl⟩
 rw[bt,eN]at B;exact⟨c,r,B,E,e⟩
theorem Bi(m:Nat)(hm:m≤3)(d:Int)(S:aD)(o H F K A B C E x s f c:Option D)(j q:Option D) :
  ∃(Q:List P)(w r:Option D),Q.length=m/\(∀l ∈ Q,l8 l)/\aR (ag 8) (cO n t) (intsFrom 0 m) [o,H,F,K,A,B,qi d,C,j,E,x,s,f,c,qr S.length,q] (S++[.lst []])=some (.nx,[o,H,F,K,A,B,qi d,C,w,E,x,s,f,c,qr S.length,r],S++[.lst (Q.map .p)]):=by
 obtain⟨L',J,e,p,w,r,I,N,rfl,rfl⟩:=bw (g:=ag 8) (b:=cO n t) (Inv:=fun i L J=>∃(p:List P) (j q:Option D),p.length=i/\(∀l ∈ p,l8 l)/\L=[o,H,F,K,A,B,qi d,C,j,E,x,s,f,c,qr S.length,q]/\J=S++[.lst (p.map .p)]) (s:=intsFrom 0 m) (k:=0) (L:=[o,H,F,K,A,B,qi d,C,j,E,x,s,f,c,qr S.length,q]) (S:=S++[.lst []]) (fun i v L J Z W=>by
  obtain⟨rfl,hi⟩:=ints_get Z;obtain⟨p,j,q,I,N,rfl,rfl⟩:=W;simp only[c6];obtain⟨z,y,hz,hy,V,U⟩:∃z y:Int,(0 < z/\z < 1152921504606846976)/\(0 < y/\y < 1152921504606846976)/\L2.atI [P.int 8,.int 800,.int 80000] (i:Int)=some (.int z)/\L2.atI [P.int 4,.int 400,.int 40000] (i:Int)=some (.int y):=by
   have:i=0\/i=1\/i=2:=by lia
   rcases this with rfl|rfl|rfl
   .exact⟨8,4,by decide,by decide,by simp,by simp⟩
   .exact⟨800,400,by decide,by decide,by simp,by simp⟩
   .exact⟨80000,40000,by decide,by decide,by simp,by simp⟩
  obtain⟨u,X,Y,T⟩:∃u:Int,-998≤u/\u≤997/\L2.atI [P.int 0,.int 997,.int 0,.int (-998)] (d / 8000000 % 4)=some (.int u):=by
   have h:d / 8000000 % 4=0\/d / 8000000 % 4=1\/d / 8000000 % 4=2\/d / 8000000 % 4=3:=by lia
   rcases h with h|h|h|h<;>rw[h]<;>simp
  obtain⟨mk,O,M⟩:=nL (a:="ma") (b:="mb") (d / y);have R:PyData.strOk mk=true:=by rcases O with rfl|rfl<;>simp
  have m0:0≤d / z % 4:=dt _ (by decide);have m1:d / z % 4 < 4:=dZ _ (by decide);have G:p.length≤1000000:=by lia
  refine⟨_,[o,H,F,K,A,B,qi d,C,qi (i:Int),E,x,s,f,c,qr S.length,qi (d / z % 4-1+u)],S++[.lst ((p++[P.tup [.str mk,.int (d / z % 4-1+u)]]).map .p)],rfl,?_,_,_,_,by simp[I],cC N ⟨mk,_,R,by lia,rfl⟩,rfl,rfl⟩;rw[<- cm];simp[cO,V,U,hz,hy,T,M,c8,G]) ⟨[],j,q,rfl,λ_ h=>(by cases h),rfl,rfl⟩
 rw[bt,eN]at I;exact⟨p,w,r,I,N,e⟩
end My
namespace My
open PySem L2 Ev
variable{B:BD}{n:Nat}
theorem yN(q:Pln B.fams B.roads B.wishes)(hn:2≤n)(A:List Int)(U V R Q G J F u j y z H:Option D) :
  ∃(m:List P)(S':aD)(q4' q5' q6' q7' q8' q9' O:Option D),m.length=(aq B.fams).length/\(∀(k:Nat) f x,(aq B.fams)[k]? = some f->m[k]? = some x->hY f x)/\S'[0]? = some (.lst (m.map .p)) /\
   aR (aP [ag 4,ag 5]) (cP (Ph n) (Ph (n-1))) (bf 0 (aq B.fams)) [qp (dc A),qp (aB B),qr 0,ql (aq B.fams),U,V,R,Q,G,J,F,u,j,y,z,H] [.lst []]=some (.nx,[qp (dc A),qp (aB B),qr 0,ql (aq B.fams),q4',q5',q6',q7',q8',q9',O,u,j,y,z,H],S'):=by
 have h4:=eT q;obtain⟨L',S',e,M,q4',q5',q6',q7',q8',q9',O,W,h2,X,rfl⟩:=bw (g:=aP [ag 4,ag 5]) (b:=cP (Ph n) (Ph (n-1))) (Inv:=fun i L S=>∃(M:List P) (U V R Q G J F:Option D),M.length=i/\(∀(k:Nat) x,M[k]? = some x->∀f,(aq B.fams)[k]? = some f->hY f x)/\S[0]? = some (.lst (M.map .p))/\L=[qp (dc A),qp (aB B),qr 0,ql (aq B.fams),U,V,R,Q,G,J,F,u,j,y,z,H]) (s:=bf 0 (aq B.fams)) (k:=0) (L:=[qp (dc A),qp (aB B),qr 0,ql (aq B.fams),U,V,R,Q,G,J,F,u,j,y,z,H]) (S:=[.lst []]) (fun i v L S hv hI=>by
  obtain⟨f,hf,rfl⟩:=eA hv;have hi:=aY hf;obtain⟨E,a,o,l,w,s,Y,rfl⟩:=ig q.hf (bH hf);obtain⟨M,U,V,R,Q,G,J,F,W,h2,X,rfl⟩:=hI;obtain⟨c,d,hd,e1,e2⟩:=g7 (n:=n) (by lia) A (k:=29+(i:Int)) (p:=31) (by lia) (by lia) (by lia);obtain⟨t,N,C,hcs,e3⟩:=yO (n:=Ph n) (t:=Ph (n-1)) Y.hce.1 Y.cl d S (qp (dc A)) (qp (aB B)) (qr 0) (ql (aq B.fams)) (qi (i:Int)) (qp (df E a o l w s)) F u j y z H G J;obtain⟨K,I,hw1,hw2,e4⟩:=Bh (n:=Ph n) (t:=Ph (n-1)) w.length Y.wl (aq B.fams) d (S++[.lst (t.map .p)]) (qp (dc A)) (qp (aB B)) (qr 0) (qi (i:Int)) (qp (df E a o l w s)) (qr S.length) C u j y z H N;have hl0:0 < S.length:=aY X;have hr0:=len_pos Y.r0;have hrp:(0:Int) < (o.length:Int):=by lia
  have r0:0≤d % (o.length:Int):=dt _ (by lia);have r1:d % (o.length:Int) < (o.length:Int):=dZ _ hrp;obtain⟨r,hr⟩:∃r:Nat,d % (o.length:Int)=(r:Int):=⟨(d % (o.length:Int)).toNat,by lia⟩;have hwn:w.length < 1000000:=by have:=Y.wl;lia
  have t1:toP 9 (.ref S.length) (S++[.lst (t.map .p)]++[.lst (K.map .p)])=some (.lst t,(S++[SO.lst (t.map .p)]++[SO.lst (K.map .p)]).set S.length (.fz (.lst t))):=eG (by simp);have t2:toP 9 (.ref (S++[SO.lst (t.map .p)]).length) ((S++[SO.lst (t.map .p)]++[SO.lst (K.map .p)]).set S.length (.fz (.lst t)))=some (.lst K,((S++[SO.lst (t.map .p)]++[SO.lst (K.map .p)]).set S.length (.fz (.lst t))).set (S++[SO.lst (t.map .p)]).length (.fz (.lst K))):=eG (by rw[a6 (by simp)];exact gy _ _);generalize hT:((S++[SO.lst (t.map .p)]++[SO.lst (K.map .p)]).set S.length (.fz (.lst t))).set (S++[SO.lst (t.map .p)]).length (.fz (.lst K))=T at t2;have Z:T[0]? = some (.lst (M.map .p)):=by rw[<- hT,a6 (by simp),a6 (by lia),List.getElem?_append_left (by simp),List.getElem?_append_left hl0];exact X
  have hS0:(S++[SO.lst (t.map .p)]++[SO.lst (K.map .p)])[0]? = some (.lst (M.map .p)):=by rw[List.getElem?_append_left (by simp),List.getElem?_append_left hl0];exact X
  refine⟨[qp (dc A),qp (aB B),qr 0,ql (aq B.fams),qi (i:Int),qp (df E a o l w s),R,Q,G,J,F,u,j,y,z,H],[qp (dc A),qp (aB B),qr 0,ql (aq B.fams),qi (i:Int),qp (df E a o l w s),qi d,qr S.length,I,C,some (.ref (S++[SO.lst (t.map .p)]).length),u,j,y,z,H],T.set 0 (.lst ((M++[P.tup [.int (r:Int),.tup t,.tup K]]).map .p)),rfl,?_,M++[P.tup [.int (r:Int),.tup t,.tup K]],_,_,_,_,_,_,_,by simp[W],t4 h2 (λf hf'=>?_),hR Z,rfl⟩
  .unfold cP;rw [aj (e:=[qp (dc A),qp (aB B),qr 0,ql (aq B.fams),qi (i:Int),qp (df E a o l w s),qi d,Q,G,J,F,u,j,y,z,H]) (b:=S) (by simp [e1,e2])];rw [aj (e:=[qp (dc A),qp (aB B),qr 0,ql (aq B.fams),qi (i:Int),qp (df E a o l w s),qi d,qr S.length,G,J,F,u,j,y,z,H]) (b:=S++[.lst []]) (by simp)];rw [aj (e:=[qp (dc A),qp (aB B),qr 0,ql (aq B.fams),qi (i:Int),qp (df E a o l w s),qi d,qr S.length,N,C,F,u,j,y,z,H]) (b:=S++[.lst (t.map .p)]) (by
    rw[bC,vh,show(ab al (vv 5) (vi 3)) [qp (dc A),qp (aB B),qr 0,ql (aq B.fams),qi (i:Int),qp (df E a o l w s),qi d,qr S.length,G,J,F,u,j,y,z,H] (S++[.lst []])=some (.lst l,S++[.lst []]) by simp[Fh]];exact e3)]
   rw[aj (e:=[qp (dc A),qp (aB B),qr 0,ql (aq B.fams),qi (i:Int),qp (df E a o l w s),qi d,qr S.length,N,C,some (.ref (S++[SO.lst (t.map .p)]).length),u,j,y,z,H]) (b:=S++[.lst (t.map .p)]++[.lst []]) (by simp)];rw[aj (e:=[qp (dc A),qp (aB B),qr 0,ql (aq B.fams),qi (i:Int),qp (df E a o l w s),qi d,qr S.length,I,C,some (.ref (S++[SO.lst (t.map .p)]).length),u,j,y,z,H]) (b:=S++[.lst (t.map .p)]++[.lst (K.map .p)]) (by rw[bC,show gL (dA (eV (ab al (vv 5) (vi 4)))) [qp (dc A),qp (aB B),qr 0,ql (aq B.fams),qi (i:Int),qp (df E a o l w s),qi d,qr S.length,N,C,some (.ref (S++[SO.lst (t.map .p)]).length),u,j,y,z,H] (S++[.lst (t.map .p)]++[.lst []])=some (intsFrom 0 w.length,S++[.lst (t.map .p)]++[.lst []]) by simp[Jo,b7,cy,hwn]];exact e4)]
   refine jD (k:=0) (w:=M) (e:=T) rfl hS0 ?_ Z (by lia);have m1:(ab aZ (vv 6) (dA (eV (ab al (vv 5) (vi 2))))) [qp (dc A),qp (aB B),qr 0,ql (aq B.fams),qi (i:Int),qp (df E a o l w s),qi d,qr S.length,I,C,some (.ref (S++[SO.lst (t.map .p)]).length),u,j,y,z,H] (S++[SO.lst (t.map .p)]++[SO.lst (K.map .p)])=some (.int (r:Int),(S++[SO.lst (t.map .p)]++[SO.lst (K.map .p)])):=by simp[KQ,b7,cy,hr0,hr]
   have m2:(ae bD (v1 (vv 7))) [qp (dc A),qp (aB B),qr 0,ql (aq B.fams),qi (i:Int),qp (df E a o l w s),qi d,qr S.length,I,C,some (.ref (S++[SO.lst (t.map .p)]).length),u,j,y,z,H] (S++[SO.lst (t.map .p)]++[SO.lst (K.map .p)])=some (.tup t,(S++[SO.lst (t.map .p)]++[SO.lst (K.map .p)]).set S.length (.fz (.lst t))):=by show aG (aG (toP 9 (.ref S.length) (S++[SO.lst (t.map .p)]++[SO.lst (K.map .p)])) _) _=_;rw[t1];rfl
   have m3:(ae bD (v1 (vv 10))) [qp (dc A),qp (aB B),qr 0,ql (aq B.fams),qi (i:Int),qp (df E a o l w s),qi d,qr S.length,I,C,some (.ref (S++[SO.lst (t.map .p)]).length),u,j,y,z,H] ((S++[SO.lst (t.map .p)]++[SO.lst (K.map .p)]).set S.length (.fz (.lst t)))=some (.tup K,T):=by show aG (aG (toP 9 (.ref (S++[SO.lst (t.map .p)]).length) ((S++[SO.lst (t.map .p)]++[SO.lst (K.map .p)]).set S.length (.fz (.lst t)))) _) _=_;rw[t2];rfl
   simp only[jQ,A0,xa,m1,m2,m3,au,yu];rfl
  .rw [W,eN,hf]at hf';cases hf';exact⟨E,a,o,l,w,s,rfl,r,t,K,rfl,by lia,hcs,hw1,hw2⟩) ⟨[],U,V,R,Q,G,J,F,rfl,λk x h=>(by simp at h),rfl,rfl⟩
 rw[dn,eN]at W;exact⟨M,S',_,_,_,_,_,_,_,W,λk f x hf hx=>h2 k x hx f hf,X,e⟩
theorem yM(q:Pln B.fams B.roads B.wishes)(hn:2≤n)(w:List Int)(h0:S0[0]? = some x0)(hr:S0[j]? = some (.lst []))(hr0:0 < j)(y z H F K A C s X O G I f r:Option D) :
  ∃(u:List P)(Y:aD)(q6' q8' R U E V:Option D),bb B u/\Y[0]? = some x0/\Y[j]? = some (.lst (u.map .p)) /\
   aR (aP [ag 12,ag 13]) (cN (Ph n) (Ph (n-1))) (bf 0 B.PR) [qp (dc w),y,z,H,F,K,X,A,O,C,s,qr j,G,I,f,r] S0=some (.nx,[qp (dc w),y,z,H,F,K,q6',A,q8',C,s,qr j,R,U,E,V],Y):=by
 have h4:=oG q;obtain⟨L',Y,e,M,q6',q8',R,U,E,V,h1,h2,h3,h5,rfl⟩:=bw (g:=aP [ag 12,ag 13]) (b:=cN (Ph n) (Ph (n-1))) (Inv:=fun i L S=>∃(M:List P) (X O G I f r:Option D),M.length=i/\(∀j ∈ M,∃l,jx l/\j=.tup l)/\S[0]? = some x0/\S[j]? = some (.lst (M.map .p))/\L=[qp (dc w),y,z,H,F,K,X,A,O,C,s,qr j,G,I,f,r]) (s:=bf 0 B.PR) (k:=0) (L:=[qp (dc w),y,z,H,F,K,X,A,O,C,s,qr j,G,I,f,r]) (S:=S0) (fun i v L S hv hI=>by
  obtain⟨x,hx,rfl⟩:=eA hv;have hi:=aY hx;obtain⟨road,hro,a,b,rfl⟩:=sQ (bH hx);obtain⟨ra,rb,kd,c,d1,d2,_,_,hkd,hc1,hc2,rfl⟩:=q.hr road hro;obtain⟨M,X,O,G,I,f,r,h1,h2,h3,h5,rfl⟩:=hI;obtain⟨c',d,hd,e1,e2⟩:=g7 (n:=n) (by lia) w (k:=34+(i:Int) % 20) (p:=33+(i:Int) / 20) (by lia) (by lia) (by lia);have m0:0≤d % (c+1):=dt _ (by lia);have m1:d % (c+1) < c+1:=dZ _ (by lia);have hcp:0 < c+1:=by lia
  obtain⟨m,hm⟩:∃m:Nat,d % (c+1)=(m:Int):=⟨(d % (c+1)).toNat,by lia⟩;obtain⟨l,J,t,hl1,hl2,e3⟩:=Bi (n:=Ph n) (t:=Ph (n-1)) m (by lia) d S (qp (dc w)) y z H F K A C s (qr j) (qi (i:Int)) (qp (pr (.tup [.str ra,.str rb,.str kd,.int c,.bl d1,.bl d2]) a b)) O r;have hrl:=aY h5;have Z:jx l:=⟨by lia,hl2⟩;generalize hp:pr (.tup [.str ra,.str rb,.str kd,.int c,.bl d1,.bl d2]) a b=N at e3;have W:al N (.int 0)=some (.tup [.str ra,.str rb,.str kd,.int c,.bl d1,.bl d2]):=by rw[<- hp];simp[pr]
  have T0:∀(o:SO),(S++[o])[0]? = some x0/\(S++[o])[j]? = some (.lst (M.map .p)):=λo=>⟨by rw[List.getElem?_append_left (by lia)];exact h3,by rw[List.getElem?_append_left hrl];exact h5⟩;have fin:∃(Q:List P)(f:Option D)(T:aD),jx Q/\T[0]? = some x0/\T[j]? = some (.lst (M.map .p)) /\
    af (d_ (bV (az dC (eV (ab al (ab al (vv 13) (vi 0)) (vi 2))) (eV (vt "heap")))) (am 14 (eV (pB (aa 14)))) eO) (bP (bg (aa 11) (eV (ae bD (v1 (vv 14)))))) [qp (dc w),y,z,H,F,K,qi d,A,J,C,s,qr j,qi (i:Int),qp N,qr S.length,t] (S++[.lst (l.map .p)])=some (.nx,[qp (dc w),y,z,H,F,K,qi d,A,J,C,s,qr j,qi (i:Int),qp N,f,t],T.set j (.lst ((M++[P.tup Q]).map .p))):=by
   by_cases hh:kd="heap"
   .obtain⟨Q,hz,ez⟩:=pE Z;refine⟨Q,ql Q,S++[.lst (l.map .p)],hz,(T0 _).1,(T0 _).2,?_⟩;rw[aj (e:=[qp (dc w),y,z,H,F,K,qi d,A,J,C,s,qr j,qi (i:Int),qp N,ql Q,t]) (b:=S++[.lst (l.map .p)]) (by simp[W,hh,xn,wa,ez])];exact jD rfl (T0 _).2 (by simp[bD]) (T0 _).2 (by lia)
   .have t1:toP 9 (.ref S.length) (S++[.lst (l.map .p)])=some (.lst l,(S++[SO.lst (l.map .p)]).set S.length (.fz (.lst l))):=eG (by simp);have hT:((S++[SO.lst (l.map .p)]).set S.length (.fz (.lst l)))[j]? = some (.lst (M.map .p)):=by rw[a6 (by lia)];exact(T0 _).2
    refine⟨l,qr S.length,(S++[SO.lst (l.map .p)]).set S.length (.fz (.lst l)),Z,by rw[a6 (by lia)];exact(T0 _).1,hT,?_⟩;rw[aj (e:=[qp (dc w),y,z,H,F,K,qi d,A,J,C,s,qr j,qi (i:Int),qp N,qr S.length,t]) (b:=S++[.lst (l.map .p)]) (by simp[W,hh])];refine jD rfl (T0 _).2 ?_ hT (by lia);show aG (aG (aG (toP 9 (.ref S.length) (S++[SO.lst (l.map .p)])) _) _) _=_;rw[t1];rfl
  obtain⟨Q,E,T,hz,hT0,hTr,e4⟩:=fin;refine⟨[qp (dc w),y,z,H,F,K,X,A,O,C,s,qr j,qi (i:Int),qp N,f,r],[qp (dc w),y,z,H,F,K,qi d,A,J,C,s,qr j,qi (i:Int),qp N,E,t],T.set j (.lst ((M++[P.tup Q]).map .p)),rfl,?_,M++[P.tup Q],_,_,_,_,_,_,by simp [h1],cC h2 ⟨Q,hz,rfl⟩,by rw [a6 (by lia)];exact hT0,hR hTr,rfl⟩;unfold cN;rw [aj (e:=[qp (dc w),y,z,H,F,K,qi d,A,O,C,s,qr j,qi (i:Int),qp N,f,r]) (b:=S) (by simp [e1,e2])];rw [aj (e:=[qp (dc w),y,z,H,F,K,qi d,A,O,C,s,qr j,qi (i:Int),qp N,qr S.length,r]) (b:=S++[.lst []]) (by simp)];rw [aj (e:=[qp (dc w),y,z,H,F,K,qi d,A,J,C,s,qr j,qi (i:Int),qp N,qr S.length,t]) (b:=S++[.lst (l.map .p)]) (by
   have hm3:m < 1000000:=by lia
   rw[bC,rH];simp[W,hcp,hm,hm3,e3])]
  exact e4) ⟨[],X,O,G,I,f,r,rfl,λ_ h=>(by cases h),h0,hr,rfl⟩
 rw[dn,eN]at h1;exact⟨M,Y,_,_,_,_,_,_,⟨h1,h2⟩,h3,h5,e⟩
theorem DK(q:Pln B.fams B.roads B.wishes)(L:5≤n)(s:List Int):∃st,ph B st/\pureOf (Ph n "_law_standing") [dc s,aB B]=some st:=by
 obtain⟨n,rfl⟩:=fF (n:=n) (by first|assumption|lia);obtain⟨m,h,b,c,t,p,v,w,a,z,y,k,g⟩:=yN q (n:=n+1) (by lia) s none none none none none none none none none none none none;obtain⟨u,e,E,G,K,A,C,D,o,H,F,i⟩:=yM q (n:=n+1) (by lia) s (j:=h.length) (S0:=h++[.lst []]) (x0:=.lst (m.map .p)) (by rw[List.getElem?_append_left (aY k)];exact k) (gy _ _) (aY k) (qp (aB B)) (qr 0) (ql (aq B.fams)) b c p w a t v none none none none;refine⟨.tup [.tup m,.tup u],⟨m,u,rfl,z,y,o⟩,?_⟩;have j:=rk (x:=n+1) (by lia) q.hf q.f0.2 (.lst B.roads) (.lst B.wishes);have l:=BS (x:=n+1) (by lia) q;have f:(0:Nat)≠h.length:=by have:=aY k;lia
 have I:toP 9 (.ref 0) e=some (.lst m,e.set 0 (.fz (.lst m))):=eG H;have J:toP 9 (.ref h.length) (e.set 0 (.fz (.lst m)))=some (.lst u,(e.set 0 (.fz (.lst m))).set h.length (.fz (.lst u))):=eG (by rw[a6 f];exact F);simp only[j7]at g i;rw[lK,ah];show(match fH _ _ [qp (dc s),qp (aB B),none,none,none,none,none,none,none,none,none,none,none,none,none,none] [] with|some (.rt d,_,S)=>(toP 9 d S).map (λx=>x.fst)|some (.nx,_,_)=>some .non|_=>none)=some (P.tup [.tup m,.tup u]);unfold fH;rw[aj (e:=[qp (dc s),qp (aB B),qr 0,none,none,none,none,none,none,none,none,none,none,none,none,none]) (b:=[.lst []]) (by simp)];rw[aj (e:=[qp (dc s),qp (aB B),qr 0,ql (aq B.fams),none,none,none,none,none,none,none,none,none,none,none,none]) (b:=[.lst []]) (by simp[j])];rw[aj (by rw[bC,show rJ (vv 3) [qp (dc s),qp (aB B),qr 0,ql (aq B.fams),none,none,none,none,none,none,none,none,none,none,none,none] [.lst []]=some (bf 0 (aq B.fams),[.lst []]) by simp];exact g)];rw[aj (e:=[qp (dc s),qp (aB B),qr 0,ql (aq B.fams),b,c,t,p,v,w,a,qr h.length,none,none,none,none]) (b:=h++[.lst []]) (by simp)];rw[aj (by rw[bC,show rJ (ae (pureOf (Ph (n+1) "_law_pairs")) (v1 (vv 1))) [qp (dc s),qp (aB B),qr 0,ql (aq B.fams),b,c,t,p,v,w,a,qr h.length,none,none,none,none] (h++[.lst []])=some (bf 0 B.PR,h++[.lst []]) by simp[l,BD.PR,BD.N]];exact i)];simp[I,J,bD]
variable{m:List P}{u:List P}{k:Nat}
theorem StL.put(h:StL B m u)(s:(aq B.fams)[k]? = some f)(c:hY f b)(r:bb B g):StL B (m.set k b) g:=by
 refine⟨by rw[eY];exact h.hl,λi n x e a=>?_,r⟩;by_cases q:k=i
 .subst q;rw[s]at e;cases e;rw[dD (by rw[h.hl];exact aY s)]at a;cases a;exact c
 .rw [a6 q]at a;exact h.hh i n x e a
section
variable{B:BD}(q:Pln B.fams B.roads B.wishes)(v:Places B){m u:List P}(p:StL B m u){k:Nat}{f x s:P}{t:yf}{b:P}{l g:List P}(h:StE B m u k f x s t b l g)
include q v p h
theorem StE.stp:∃n e o c w t,f=df n e o c w t/\Fam B.roads n e o c w t/\s ∈ t/\∃(r:Nat)(a b:List P),x=.tup [.int (r:Int),.tup a,.tup b]/\StpL B 12 f o c a b u r s (FF B k x u s):=by obtain⟨n,e,o,c,w,t,rfl,F,r,a,b,rfl,m⟩:=(qa q v h.hf (p.hh k _ _ h.hf h.hx) p.hr).st f h.hf;exact⟨n,e,o,c,w,t,rfl,F,h.hs,r,a,b,rfl,m s h.hs⟩
theorem StE.st:StL B (m.set k b) g:=by obtain⟨j,w,o,c,a,x,rfl,F,u,r,i,l,rfl,s⟩:=h.stp q v p;obtain⟨_,n,⟨T,f⟩,_⟩:=s.ok t h.ht;obtain⟨_,_,e,_,_,d⟩:=f _ h.hw;simp only[P.tup.injEq,bN,cD]at e;obtain⟨rfl,rfl⟩:=e;exact p.put h.hf (n b h.ho) d
set_option tactic.hygienic true in
theorem StE.own(O:jf s):t.1=.non/\l=[]/\g=u/\∀{a d:List P},StL B a d->a[k]? = some x->∃Q:yf,Q.1=.non/\StE B a d k f x s Q b [] d:=by
 obtain⟨V,w,o,c,H,n,rfl,Z,I,r,R,X,rfl,J⟩:=h.stp q v p;have e:=J.own O;have m:=h.ht;rw[e]at m;split at m;case isFalse=>cases m
 rename_i E;rw[fY]at m;have N:=h.ho;have K:=h.hw;rw[m]at N K;rw[fY]at K;simp only[P.tup.injEq,bN,cD]at K;obtain⟨rfl,rfl⟩:=K;refine⟨by rw[m],rfl,rfl,λ{a d} S y=>?_⟩;obtain⟨W,D,A,F,L,C,i,_,r',T,Y,z,j⟩:=(qa q v h.hf (S.hh k _ _ h.hf y) S.hr).st _ h.hf;simp only[P.tup.injEq,bN,P.str.injEq,P.int.injEq,P.lst.injEq,cD]at i z;obtain⟨rfl,U,rfl,rfl,rfl,rfl⟩:=i;obtain⟨G,rfl,rfl⟩:=z;cases lb G;have M:=(j s I).own O;rw[if_pos E]at M;exact⟨(.non,zo (12-2) (df V w o c H n) o c R X s (CM s),[.tup [.tup [],.tup d]]),rfl,h.hf,y,h.hs,by rw[M];exact List.mem_cons_self,N,List.mem_cons_self⟩
end
noncomputable def Lh(m:List P):P->P
 | .tup [d,.tup [_,r]]=>.tup [d,.tup [.tup m,r]]
 |z=>z
theorem E3(m h u:List P)(w:Str)(x:P):C5 h u w x=(C5 m u w x).map (Lh h):=by
 unfold C5;split
 .split
  .rw [j1];rfl
  .rfl
 .rfl
theorem Ah(B:BD)(m h u:List P)(w:Str):dL B h u w=(dL B m u w).map (Lh h):=by unfold dL;rw[List.map_flatMap];congr 1;funext x;exact E3 m h u w x
def isFl(w:Str):Prop:=w="lose"\/w="double"
variable{w:Str}{z:P}
theorem wI(q:Pln B.fams B.roads B.wishes)(p:StL B m u)(hw:isFl w)(x:z ∈ dL B m u w):∃(a c s:Nat)(g:List P),z=.tup [.tup [.str w,.int (a:Int),.int (c:Int),.int (s:Int)],.tup [.tup m,.tup g]]/\bb B g:=by obtain⟨k,road,l,a,c,s,_,_,rfl,_,_,e,h⟩:=Ai q p hw x;simp only[P.tup.injEq,bN,cD]at e;obtain⟨rfl,rfl⟩:=e;exact⟨a,c,s,_,rfl,h.hr⟩
theorem E2(hw:isFl w)(h:z ∈ dL B m u w):z ∈ gS B m u:=by
 rcases hw with rfl|rfl
 .exact fA _ (e_ _ h)
 .exact e_ _ h
structure Past(B:BD)(hs1 rs1 hs2 rs2:List P)(d1 d2 e:P):Prop where
 s1:StL B hs1 rs1
 s2:StL B hs2 rs2
 m1:.tup [d2,e] ∈ gS B hs1 rs1
 m2:.tup [d1,e] ∈ gS B hs2 rs2
 ok:ph B e
theorem BC(q:Pln B.fams B.roads B.wishes)(v:Places B)(p:StL B m u)(n:StE B m u j J L H G i o e)(w:jf H)(h:StE B m u k E I A C y c a)(x:j≠k) :
  Past B (m.set j i) e (m.set k y) a (oI (dE m j H G i o e)) (oI (dE m k A C y c a)) (.tup [.tup ((m.set j i).set k y),.tup a]):=by
 obtain⟨r,rfl,rfl,t⟩:=n.own q v p w;have S:=n.st q v p;have s:=h.st q v p;have b:StE B (m.set j i) e k E I A C y c a:=⟨h.hf,by rw[a6 x];exact h.hx,h.hs,h.ht,h.ho,h.hw⟩;obtain⟨g,d,f⟩:=t s (by rw[a6 x.symm];exact n.hx);refine⟨S,s,fA _ (fA _ ((rg q v S).mpr ⟨_,_,_,_,_,_,_,_,b,rfl⟩)),fA _ (fA _ ((rg q v s).mpr ⟨_,_,_,_,_,_,_,_,f,?_⟩)),_,_,rfl,b.st q v S⟩;unfold dE;rw[d,r,List.set_comm _ _ x]
theorem BE(q:Pln B.fams B.roads B.wishes)(v:Places B)(p:StL B m u)(h:StE B m u j A C y H c i e)(f:jf y)(hw:isFl w)(r:bb B a)(z:.tup [o,.tup [.tup m,.tup a]] ∈ dL B m u w) :
  Past B (m.set j c) e m a (oI (dE m j y H c i e)) o (.tup [.tup (m.set j c),.tup a]):=by
 obtain⟨s,rfl,rfl,n⟩:=h.own q v p f;have x:=h.st q v p;have S:StL B m a:=⟨p.hl,p.hh,r⟩;obtain⟨t,k,b⟩:=n S h.hx;refine⟨x,S,E2 hw ?_,fA _ (fA _ ((rg q v S).mpr ⟨_,_,_,_,_,_,_,_,b,?_⟩)),_,_,rfl,b.st q v S⟩
 .rw [Ah B m (m.set j c)];exact aX.mpr ⟨_,z,rfl⟩
 .unfold dE;rw[k,s]
def fZ(d:P):Prop:=(∃(k:Int)(x:Str)(y:P)(l:List P),d=.tup [.str "step",.int k,.str x,y,.tup l]/\(y=.non\/nU y)/\∀a ∈ l,mu a)\/∃(w:Str)(a c s:Int),isFl w/\d=.tup [.str w,.int a,.int c,.int s]
theorem ua:∀{l s:List P},(∀a ∈ l,mu a)->(∀a ∈ s,mu a)->PyData.eqvAll (i5 l) (i5 s)=true->l=s
 | [],[],_,_,_=>rfl
 | [],_::_,_,_,h=>by simp[i5,PyData.eqvAll]at h
 |_::_,[],_,_,h=>by simp[i5,PyData.eqvAll]at h
 |a::l,b::s,n,k,h=>by obtain⟨i,rfl⟩:=n a List.mem_cons_self;obtain⟨j,rfl⟩:=k b List.mem_cons_self;simp[i5,pd,PyData.eqvAll,PyData.eqv]at h;obtain⟨rfl,h⟩:=h;rw[ua (λx e=>n x (aS _ e)) (λx e=>k x (aS _ e)) h]
theorem B9(e:y=.non\/nU y)(x:a=.non\/nU a)(h:PyData.eqv (pd y) (pd a)=true):y=a:=by
 rcases e with rfl|⟨s,k,rfl⟩<;>rcases x with rfl|⟨n,p,rfl⟩
 .rfl
 .simp [pd,PyData.eqv]at h
 .simp [pd,PyData.eqv]at h
 .simp [pd,i5,PyData.eqv,PyData.eqvAll]at h;obtain⟨f,b⟩:=h;rw[show(s:Int)=n by lia,show(k:Int)=p by lia]
variable{d:P}{r:P}
theorem E4(h:fZ d)(b:fZ r)(q:PyData.eqv (pd d) (pd r)=true):d=r:=by
 have hw:("step":Str)≠"lose"/\("step":Str)≠"double":=by decide +kernel
 rcases h with ⟨k,x,y,l,rfl,p,t⟩|⟨w,a,c,o,s,rfl⟩<;>rcases b with ⟨z,S,F,m,rfl,n,e⟩|⟨H,i,j,g,f,rfl⟩
 .simp [pd,i5,PyData.eqv,PyData.eqvAll]at q;obtain⟨rfl,rfl,v,u⟩:=q;rw[B9 p n v,ua t e u]
 .simp only[pd,i5,PyData.eqv,PyData.eqvAll,Bool.and_eq_true,jZ]at q;rcases f with rfl|rfl
  .exact absurd q.1 hw.1
  .exact absurd q.1 hw.2
 .simp only[pd,i5,PyData.eqv,PyData.eqvAll,Bool.and_eq_true,jZ]at q;rcases s with rfl|rfl
  .exact absurd q.1.symm hw.1
  .exact absurd q.1.symm hw.2
 .simp [pd,i5,PyData.eqv,PyData.eqvAll]at q;obtain⟨rfl,rfl,rfl,rfl⟩:=q;rfl
theorem ph.ok(h:ph B st):cb 5 st=true:=by
 obtain⟨m,u,rfl,p⟩:=h;have k:cb 4 (.tup m)=true:=bj.mpr λx a=>by
  obtain⟨i,n,rfl⟩:=lj.mp a;obtain⟨_,_,_,_,_,_,_,r,s,w,e,_,b,_,hw⟩:=p.hh i _ _ (cK (by rw[<- p.hl];exact n)) (cK n);have o:cb 2 (.tup s)=true:=bj.mpr λc h=>by obtain⟨i,_,rfl⟩:=b.2 c h;simp
  have q:cb 2 (.tup w)=true:=bj.mpr λc h=>(hw c h).ok 1;rw[e];show(List.all [_,P.tup s,P.tup w] (cb 2))=true;rw[dY,dY,dY,o,q];simp
 have f:cb 4 (.tup u)=true:=bj.mpr λx a=>by obtain⟨v,t,rfl⟩:=p.hr.2 x a;exact bj.mpr λl h=>ei (t.2 l h).ok (by lia)
 show(List.all [P.tup m,P.tup u] (cb 4))=true;rw[dY,dY,k,f];rfl
theorem DL(q:Pln B.fams B.roads B.wishes)(v:Places B)(p:StL B m u)(h:StE B m u k f x s t b l g):fZ (oI (dE m k s t b l g))/\cb 3 (oI (dE m k s t b l g))=true:=by
 obtain⟨J,j,o,d,S,i,rfl,K,w,r,I,Q,rfl,c⟩:=h.stp q v p;obtain⟨_,_,⟨T,A⟩,_⟩:=c.ok t h.ht;obtain⟨_,_,e,_,y,_⟩:=A _ h.hw;simp only[P.tup.injEq,bN,cD]at e;obtain⟨rfl,rfl⟩:=e;have z:=c.lt t h.ht;obtain⟨H,L,O,N,F,M,G,n,_,rfl⟩:=K.hst s w;have n:PyData.strOk H=true:=n;refine⟨.inl ⟨_,_,_,_,rfl,z,y⟩,?_⟩;have D:cb 2 t.1=true:=by rcases z with e|⟨_,_,e⟩<;>rw[e]<;>simp
 have E:cb 2 (.tup l)=true:=bj.mpr λa C=>(y a C).ok 1;show(List.all [P.str "step",.int (k:Int),.str H,t.1,.tup l] (cb 2))=true;simp only[dY,List.all_nil,D,E,BK,BL,n,Bool.and_true];decide +kernel
theorem nc(q:Pln B.fams B.roads B.wishes)(v:Places B)(p:StL B m u)(h:z ∈ gS B m u):(∃k f x s t b l g,StE B m u k f x s t b l g/\z=dE m k s t b l g)\/∃w,isFl w/\z ∈ dL B m u w:=by
 rcases du.mp h with h|h
 .rcases du.mp h with h|h
  .exact .inl ((rg q v p).mp h)
  .exact .inr ⟨_,.inl rfl,h⟩
 .exact .inr ⟨_,.inr rfl,h⟩
theorem oE(q:Pln B.fams B.roads B.wishes)(v:Places B)(p:StL B m u)(n:z ∈ gS B m u):∃d e,z=.tup [d,e]/\fZ d/\cb 3 d=true/\ph B e:=by
 rcases nc q v p n with ⟨k,f,x,s,t,b,l,g,h,rfl⟩|⟨w,hw,n⟩
 .obtain⟨r,i⟩:=DL q v p h;exact⟨_,_,rfl,r,i,_,_,rfl,h.st q v p⟩
 .obtain⟨a,c,y,g,rfl,j⟩:=wI q p hw n;have o:PyData.strOk w=true:=by rcases hw with rfl|rfl<;>decide +kernel
  exact⟨_,_,rfl,.inr ⟨w,_,_,_,hw,rfl⟩,by simp[o],_,_,rfl,p.hl,p.hh,j⟩
theorem KP{E:List P}(f:E.Pairwise dNe){z:P}(n:z ∈ E){p:P->Bool}(x:∀y ∈ E,(p y=true↔oI y=oI z)):E.filter p=[z]:=by
 induction E with
 |nil=>cases n
 |cons a r i=>
  obtain⟨s,k⟩:=qD.mp f;rcases bq.mp n with rfl|h
  .rw [nq ((x _ List.mem_cons_self).mpr rfl),nl.mpr λy e q=>s y e ((x y (aS _ e)).mp q).symm]
  .rw [np λq=>s z h ((x a List.mem_cons_self).mp q)];exact i k h λy e=>x y (aS _ e)
theorem B_(h:cb 20 (.tup a)=true)(x:cb 20 (.tup y)=true):wK (.tup a) (.tup y)=some (PyData.eqv (pd (.tup a)) (pd (.tup y))):=by show(if (cb 20 (.tup a) && cb 20 (.tup y))=true then some _ else none)=_;rw[h,x];rfl
theorem fZ.tup(h:fZ d):∃x,d=.tup x:=by rcases h with ⟨_,_,_,_,rfl,_⟩|⟨_,_,_,_,_,rfl⟩<;>exact⟨_,rfl⟩
theorem C7(h:fZ d)(b:fZ r)(o:cb 3 d=true)(x:cb 3 r=true):wK d r=some (PyData.eqv (pd d) (pd r)):=by have a:=ei o (show 3≤20 by lia);have e:=ei x (show 3≤20 by lia);obtain⟨_,rfl⟩:=h.tup;obtain⟨_,rfl⟩:=b.tup;exact B_ a e
theorem rM(h:fZ d)(b:fZ r)(o:cb 3 d=true):PyData.eqv (pd d) (pd r)=true↔d=r:=
 ⟨E4 h b,λe=>by rw[<- e];exact qj _ (eI 20 d (ei o (by lia))).1⟩
theorem Al(c:B=xE B.fams B.roads B.wishes)(q:Pln B.fams B.roads B.wishes)(v:Places B)(g:18≤n)(p:StL B m u):pureOf (Ph n "ends_from") [aB B,.tup [.tup m,.tup u]]=some (.lst (gS B m u)):=by have H:=AM q v p;obtain⟨n,rfl⟩:=fF (n:=n) (by first|assumption|lia);obtain⟨w,b⟩:=uc q (n:=n+1) (by lia) p H;obtain⟨S,x,h⟩:=uI q (n:=n) (by lia);rw[<- c]at h;obtain⟨d,r,s,f,a⟩:=b _ _ _ h;obtain⟨t,k,_⟩:=a.toP f h.le;have e:Ph n "Board.__init__" [.ref 0,.p (aB B)] [.ins "Board" [] []]=some (.p .non,S):=x;rw[o1,ah];simp[jX,e,s,k]
theorem C9(w v:Str->GF)(f:fZ a)(t:cb 3 a=true)(x n:Option D)(S:aD):∀{s:List P},(∀z ∈ s,∃d e,z=.tup [d,e]/\fZ d/\cb 3 d=true)->∀{k:P},.tup [a,k] ∈ s->s.Pairwise dNe->∀q p:Option D,∃L,aR (aP [ag 3,ag 4]) (gw w v) s [x,n,qp a,q,p] S=some (.rt (.p k),L,S)
 | [],_,_,h,_,_,_=>by cases h
 |y::s,r,k,m,g,q,p=>by
  obtain⟨d,st,rfl,hd,o⟩:=r y List.mem_cons_self;have e:=C7 hd f o t;obtain⟨l,H⟩:=qD.mp g;rcases bq.mp m with c|m
  .simp only[P.tup.injEq,bN,cD]at c;obtain⟨rfl,rfl⟩:=c;rw[(rM hd hd o).mpr rfl]at e;refine⟨[x,n,qp a,qp a,qp k],?_⟩;unfold aR;simp[gw,e]
  .have b:PyData.eqv (pd d) (pd a)=false:=by
    cases i:PyData.eqv (pd d) (pd a) with
    |false=>rfl
    |true=>exact absurd ((rM hd f o).mp i) (l _ m)
   rw[b]at e;obtain⟨L,u⟩:=C9 w v f t x n S (s:=s) (λz j=>r z (aS _ j)) m H (qp d) (qp st);exact⟨L,(bu (y:=[x,n,qp a,qp d,qp st]) (L2:=[x,n,qp a,qp d,qp st]) (J:=S) rfl (by simp[gw,e])).trans u⟩
theorem C8(G:B=xE B.fams B.roads B.wishes)(q:Pln B.fams B.roads B.wishes)(v:Places B)(O:20≤n)(p:StL B m u)(w:.tup [d,e] ∈ gS B m u):pureOf (Ph n "do") [aB B,.tup [.tup m,.tup u],d]=some e:=by
 obtain⟨n,rfl⟩:=Mx (n:=n) (by first|assumption|lia);obtain⟨_,_,t,hd,I,_⟩:=oE q v p w;simp only[P.tup.injEq,bN,cD]at t;obtain⟨rfl,rfl⟩:=t;obtain⟨f,s⟩:=uc q (n:=n+2) (by lia) p (AM q v p);obtain⟨x,o,c⟩:=uI q (n:=n+2) (by lia);rw[<- G]at c;obtain⟨N,M,H,C,y⟩:=s _ _ _ c;obtain⟨k,F,D⟩:=oD (b:=x.length) (g:=Ph (n+2) "ends_on") (q:=ac (aa 0) (ac (aa 1) ba)) (L:=[qr 0,qt [.tup m,.tup u],qp d,none,none]) (S:=x) (l:=[.ref 0,.p (.tup [.tup m,.tup u])]) rfl H C (Nat.le_refl _) y;obtain⟨J,K⟩:=C9 (Ph (n+2)) (Ph (n+1)) hd I (qr 0) (qt [.tup m,.tup u]) k (s:=gS B m u) (λz h=>by obtain⟨d,e,f,E,s,_⟩:=oE q v p h;exact⟨d,e,f,E,s⟩) w (AJ q v p) none none;have A:Ph (n+3) "do_on" [.ref 0,.p (.tup [.tup m,.tup u]),.p d] x=some (.p e,k):=by rw[xV];show(match lV _ _ [qr 0,qt [.tup m,.tup u],qp d,none,none] x with|some (.rt d,_,x)=>some (d,x)|some (.nx,_,x)=>some (.p .non,x)|_=>none)=_;unfold lV;rw[mW,bC,d6,F];show(match (match aR _ _ (gS B m u) _ _ with|some (.nx,i,j)=>nG i j|r=>r) with|some (.rt d,_,x)=>some (d,x)|some (.nx,_,x)=>some (.p .non,x)|_=>none)=_;rw[K]
 have a:Ph (n+2) "Board.__init__" [.ref 0,.p (aB B)] [.ins "Board" [] []]=some (.p .non,x):=o;rw[E6,ah];simp[AF,a,A]
end My
namespace My
open PySem L2 Ev
theorem C6{f:P->P}{E:List P}(c:E.Pairwise λa b=>f a≠f b){z:P}(n:z ∈ E){p:P->Bool}(x:∀y ∈ E,(p y=true↔f y=f z)):E.filter p=[z]:=by
 induction E with
 |nil=>cases n
 |cons a r i=>
  obtain⟨s,k⟩:=qD.mp c;rcases bq.mp n with rfl|h
  .rw [nq ((x _ List.mem_cons_self).mpr rfl),nl.mpr λy e q=>s y e ((x y (aS _ e)).mp q).symm]
  .rw [np λq=>s z h ((x a List.mem_cons_self).mp q)];exact i k h λy e=>x y (aS _ e)
theorem HV{s:List P}(E:s.Pairwise λa b=>aC a≠aC b){z:P}(x:z ∈ s):s.filter (λy=>decide (aC y=aC z))=[z]:=by
 have:=C6 (f:=λy=>.str (aC y)) (E.imp λ{a b} h q=>h (P.str.inj q)) x (p:=λy=>decide (aC y=aC z)) λy _=>by simp
 exact this
theorem CT{B:BD}(D:Pln B.fams B.roads B.wishes)(C:Places B){n:Nat}(hn:4≤n){o z:List P}(Z:StL B o z){k:Nat}{f x s:P}{t:yf}{A:P}{e J:List P}(h:StE B o z k f x s t A e J):∃b,(b=true->jf s)/\pureOf (Ph n "_law_is_own") [aB B,oI (dE o k s t A e J)]=some (.bl b):=by
 obtain⟨n,rfl⟩:=fF (n:=n) (by first|assumption|lia);obtain⟨nm,M,I,l,N,m,rfl,F,j,r,cs,ws,rfl,hst⟩:=h.stp D C Z;have hf:=h.hf;have U:pureOf (Ph (n+1) "_law_families") [aB B]=some (.lst (aq B.fams)):=rk (x:=n+1) (by lia) D.hf D.f0.2 _ _;have hsl:=F.sl;obtain⟨a,H,K,w,g,i,u,hsx,E,rfl⟩:=F.hst s j;have Y:∀x ∈ oS l++more w,jG x:=λx hx=>(du.mp hx).elim (nO F.hce.1 x) (m5 w x);have G:cb 20 (.lst i)=true:=Ku λc h=>ei ((E.hsn c h).ok Y) (by lia);have V:=rN G;generalize hd:oI (dE o k (cT a H K w g i u) t A e J)=d;have O:L2.atI [P.str "step",.int (k:Int),.str a,t.1,.tup e] 0=some (.str "step"):=aF (by decide) rfl;have Q:L2.atI [P.str "step",.int (k:Int),.str a,t.1,.tup e] 1=some (.int (k:Int)):=aF (by decide) rfl;have R:L2.atI [P.str "step",.int (k:Int),.str a,t.1,.tup e] 2=some (.str a):=aF (by decide) rfl;have hd:d=.tup [.str "step",.int (k:Int),.str a,t.1,.tup e]:=hd.symm;subst hd;have T:a_ (ag 3) (bV (az dC (eV (ab al (vv 3) (vi 0))) (eV (ab al (vv 1) (vi 2))))) (vv 3) m [qp (aB B),qt [.str "step",.int (k:Int),.str a,t.1,.tup e],none,none] []=some ([cT a H K w g i u],[]):=by
  rw[bx (p:=λy=>decide (aC y=aC (cT a H K w g i u))) (f:=id) (Inv:=λL=>∃d,L=[qp (aB B),qt [.str "step",.int (k:Int),.str a,t.1,.tup e],none,d]) (λv hv L C=>?_) ⟨none,rfl⟩,HV F.sd j]
  .rfl
  .obtain⟨d,rfl⟩:=C;obtain⟨vx,_,_,_,_,_,_,_,_,rfl⟩:=F.hst v hv;exact⟨_,rfl,⟨_,rfl⟩,by simp[R,aC];rfl,λ_=>by simp⟩
 refine⟨de (.p w) && i.isEmpty,λq=>?_,?_⟩
 .rw [Bool.and_eq_true]at q;have W:w=.non:=by
   cases w<;>first|rfl|cases q.1
  have X:i=[]:=mS.mp q.2;subst W X;exact⟨_,_,_,_,_,rfl⟩
 .have hq:m.length≤1000000:=by lia
  rw[jk,ah];show(match fo _ _ [qp (aB B),qt [.str "step",.int (k:Int),.str a,t.1,.tup e],none] [] with|some (.rt d,_,S)=>(toP 9 d S).map (λx=>x.fst)|some (.nx,_,_)=>some .non|_=>none)=some (P.bl (de (.p w) && i.isEmpty));unfold fo;rw[aj (e:=[qp (aB B),qt [.str "step",.int (k:Int),.str a,t.1,.tup e],none]) (b:=[]) (by simp[O])];rw[aj (e:=[qp (aB B),qt [.str "step",.int (k:Int),.str a,t.1,.tup e],ql [cT a H K w g i u]]) (b:=[]) (by rw[cq,jQ];unfold aU;rw[d6];simp[U,Q,bo hf,Lx,hq,jK,T])]
  cases hk:de (.p w)<;>simp[oH,Fw,pS,hk,V]
theorem CU{B:BD}{n:Nat}(x:2≤n){w:Str}(hw:isFl w)(p:P)(a c s:P):pureOf (Ph n "_law_is_own") [p,.tup [.str w,a,c,s]]=some (.bl false):=by
 obtain⟨n,rfl⟩:=fF (n:=n) (by first|assumption|lia);have d:L2.atI [P.str w,a,c,s] 0=some (.str w):=aF (by decide) rfl;have h:¬w="step":=by rcases hw with rfl|rfl<;>decide +kernel
 rw[jk,ah];simp[fo,d,h]
theorem hY.ok(h:hY f x):∃n,x=.tup n/\cb 20 x=true:=by
 obtain⟨_,_,_,_,_,_,_,r,s,w,rfl,_,a,_,hw⟩:=h;have o:cb 19 (.tup s)=true:=bj.mpr λc h=>by obtain⟨i,_,rfl⟩:=a.2 c h;simp
 have e:cb 19 (.tup w)=true:=bj.mpr λc h=>(hw c h).ok 18;refine⟨_,rfl,?_⟩;show(List.all [_,P.tup s,P.tup w] (cb 19))=true;rw[dY,dY,dY,o,e];simp
theorem BN(h:cb 20 (.tup x)=true)(a:cb 20 (.tup y)=true):uN (.tup x) (.tup y)=some (!PyData.eqv (pd (.tup x)) (pd (.tup y))):=by show(if (cb 20 (.tup x) && cb 20 (.tup y))=true then some _ else none)=_;rw[h,a];rfl
theorem Au{B:BD}(l:h.length=s.length)(N:s.length≤16)(e:P)(t:∀(i:Nat) x k,s[i]? = some x->h[i]? = some k->uN x k=some (p (.int (i:Int))))(a d:P) :
  (aU (gL (dA (eV (ab al (vv 1) (vi 0))))) [] 1 (ag 5) (bV (az ma (eV (ab al (ab al (vv 1) (vi 0)) (vv 5))) (eV (ab al (ab al (vv 3) (vi 0)) (vv 5))))) (vv 5)) [qp a,qt [.tup s,.tup r],qp d,qt [.tup h,e],none] []=some (.lst ((intsFrom 0 s.length).filter p),[]):=by
 have c:a_ (ag 5) (bV (az ma (eV (ab al (ab al (vv 1) (vi 0)) (vv 5))) (eV (ab al (ab al (vv 3) (vi 0)) (vv 5))))) (vv 5) (intsFrom 0 s.length) [qp a,qt [.tup s,.tup r],qp d,qt [.tup h,e],none,none] []=some ((intsFrom 0 s.length).filter p,[]):=by rw[bx (p:=p) (f:=id) (Inv:=λL=>∃q,L=[qp a,qt [.tup s,.tup r],qp d,qt [.tup h,e],none,q]) (λv u L b=>?_) ⟨none,rfl⟩,kA];obtain⟨q,rfl⟩:=b;obtain⟨i,rfl,m⟩:=dI u;simp only[c6];have g:s[i]? = some s[i]:=cK m;have n:h[i]? = some (h[i]'(by lia)):=cK _;exact⟨[qp a,qt [.tup s,.tup r],qp d,qt [.tup h,e],none,qi (i:Int)],rfl,⟨_,rfl⟩,by simp[bo g,bo n,t i _ _ g n],λ_=>by simp⟩
 have w:s.length < 1000000:=by lia
 unfold aU;rw[rH];simp[b7,cy,w,jK,c,bt];lia
theorem Gp{B:BD}(E:Pln B.fams B.roads B.wishes)(L:Places B){n:Nat}(hn:6≤n){a r:List P}(u:StL B a r){k:Nat}{f x s:P}{t:yf}{m:P}{e w:List P}(h:StE B a r k f x s t m e w):pureOf (Ph n "_law_touches") [aB B,.tup [.tup a,.tup r],oI (dE a k s t m e w),.tup [.tup (a.set k m),.tup w]]=some (.bl true):=by
 obtain⟨n,rfl⟩:=fF (n:=n) (by first|assumption|lia);obtain⟨b,Z,G⟩:=CT E L (n:=n+1) (by lia) u h;have R:=h.st E L u;have hk:=aY h.hf;have H:k < a.length:=by rw[u.hl];exact hk
 have h4:=eT E;have O:=u.hl;obtain⟨x1,X,ox⟩:=(u.hh k _ _ h.hf h.hx).ok;have K:(a.set k m)[k]? = some m:=dD H;obtain⟨y1,Y,oy⟩:=(R.hh k _ _ h.hf K).ok;obtain⟨c,hc⟩:∃c,uN x m=some c:=by subst X Y;exact⟨_,BN ox oy⟩
 have A:=Au (B:=B) (s:=a) (h:=a.set k m) (r:=r) (by simp) (by lia) (.tup w) (p:=fun v=>match v with | .int i=>decide (i=(k:Int)) && c | _=>false) (fun i x' y' j C=>by
  by_cases q:k=i
  .subst q;rw[h.hx]at j;cases j;rw[K]at C;cases C;simp[hc]
  .rw [a6 q,j]at C;cases C;have q2:¬(i:Int)=k:=by lia
   obtain⟨f',z,e1,N,U⟩:=u.at (k:=i) (by rw[<- u.hl];exact aY j);rw[j]at N;cases N;obtain⟨_,_,o⟩:=U.ok;simp[kH o,q2]) (aB B) (oI (dE a k s t m e w))
 generalize D:(intsFrom 0 a.length).filter (λv=>match v with | .int i=>decide (i=(k:Int)) && c|_=>false)=F at A;have D:F=[]\/F=[.int (k:Int)]:=by
  cases c with
  |false=>refine .inl (D ▸ nl.mpr λv J=>?_);obtain⟨i,rfl,_⟩:=dI J;simp
  |true=>
   refine .inr (D ▸ C6 (f:=id) (by rw[pQ];exact kG (j5 (n:=a.length))) ?_ λv J=>?_)
   .rw [pQ];exact aX.mpr ⟨k,dF.mpr H,rfl⟩
   .obtain⟨i,rfl,_⟩:=dI J;simp
 have V:Fz (.lst F) (.lst [.lst [],.lst [.int (k:Int)]])=some true:=by show(if ([P.lst [],.lst [.int (k:Int)]].all (cb 19) && cb 19 (.lst F))=true then some ([P.lst [],.lst [.int (k:Int)]].any λy=>PyData.eqv (pd y) (pd (.lst F))) else none)=some true;rcases D with rfl|rfl<;>simp[pd,i5,PyData.eqv,PyData.eqvAll]
 have M:L2.atI [P.str "step",.int (k:Int),.str (aC s),t.1,.tup e] 0=some (.str "step"):=aF (by decide) rfl;have T:L2.atI [P.str "step",.int (k:Int),.str (aC s),t.1,.tup e] 1=some (.int (k:Int)):=aF (by decide) rfl;have W:b=true->wK (.tup r) (.tup w)=some true:=λq=>by
  obtain⟨_,_,rfl,_⟩:=h.own E L u (Z q);exact ub (by refine bj.mpr λx hx=>?_;obtain⟨ls,O,rfl⟩:=u.hr.2 x hx;exact bj.mpr λl h=>ei (O.2 l h).ok (by lia))
 generalize I:oI (dE a k s t m e w)=Q at A G ⊢;have I:Q=.tup [.str "step",.int (k:Int),.str (aC s),t.1,.tup e]:=I.symm;subst I;rw[iV,ah];show(match dj _ _ [qp (aB B),qt [.tup a,.tup r],qt [.str "step",.int (k:Int),.str (aC s),t.1,.tup e],qt [.tup (a.set k m),.tup w],none] [] with|some (.rt d,_,S)=>(toP 9 d S).map (λx=>x.fst)|some (.nx,_,_)=>some .non|_=>none)=some (P.bl true);unfold dj;generalize a.set k m=g at A ⊢;rw[aj (e:=[qp (aB B),qt [.tup a,.tup r],qt [.str "step",.int (k:Int),.str (aC s),t.1,.tup e],qt [.tup g,.tup w],ql F]) (b:=[]) (by rw[cq,jQ,A];rfl)];rw[aj (e:=[qp (aB B),qt [.tup a,.tup r],qt [.str "step",.int (k:Int),.str (aC s),t.1,.tup e],qt [.tup g,.tup w],ql F]) (b:=[]) (by simp[M])];rw[aj (e:=[qp (aB B),qt [.tup a,.tup r],qt [.str "step",.int (k:Int),.str (aC s),t.1,.tup e],qt [.tup g,.tup w],ql F]) (b:=[]) (by simp[M,T,n2,B3,jR,d4,V])];cases b with
 |false=>simp[G]
 |true=>simp[G,W rfl]
theorem Gq{B:BD}(y:Pln B.fams B.roads B.wishes){n:Nat}(D:6≤n){h r:List P}(b:StL B h r){w:Str}(hw:isFl w)(a c s:P)(e:List P):pureOf (Ph n "_law_touches") [aB B,.tup [.tup h,.tup r],.tup [.str w,a,c,s],.tup [.tup h,.tup e]]=some (.bl true):=by
 obtain⟨n,rfl⟩:=fF (n:=n) (by first|assumption|lia);have l:=CU (B:=B) (n:=n+1) (by lia) hw (aB B) a c s;have A:=eT y;have C:=b.hl;have v:=Au (B:=B) (s:=h) (h:=h) (r:=r) rfl (by lia) (.tup e) (p:=λ_=>false) (λi E G g u=>by rw[g]at u;cases u;obtain⟨K,z,F,t,j⟩:=b.at (k:=i) (by rw[<- b.hl];exact aY g);rw[g]at t;cases t;obtain⟨_,_,o⟩:=j.ok;exact kH o) (aB B) (.tup [.str w,a,c,s])
 rw[nl.mpr λ_ _ q=>(by cases q)]at v;have m:L2.atI [P.str w,a,c,s] 0=some (.str w):=aF (by decide) rfl;have f:¬w="step":=by rcases hw with rfl|rfl<;>decide +kernel
 have H:uN (.lst []) (.lst [])=some false:=kH rfl;rw[iV,ah];show(match dj _ _ [qp (aB B),qt [.tup h,.tup r],qt [.str w,a,c,s],qt [.tup h,.tup e],none] [] with|some (.rt d,_,S)=>(toP 9 d S).map (λx=>x.fst)|some (.nx,_,_)=>some .non|_=>none)=some (P.bl true);unfold dj;rw[aj (e:=[qp (aB B),qt [.tup h,.tup r],qt [.str w,a,c,s],qt [.tup h,.tup e],ql []]) (b:=[]) (by rw[cq,jQ,v];rfl)];rw[aj (e:=[qp (aB B),qt [.tup h,.tup r],qt [.str w,a,c,s],qt [.tup h,.tup e],ql []]) (b:=[]) (by simp[m,f,H])];rw[aj (e:=[qp (aB B),qt [.tup h,.tup r],qt [.str w,a,c,s],qt [.tup h,.tup e],ql []]) (b:=[]) (by simp[m,f])];simp[l]
noncomputable def Lf:P->P
 | .tup [_,e]=>e
 |_=>.non
theorem Db(a:Pln B.fams B.roads B.wishes)(x:Places B)(S:StL B i r)(z:.tup [d,e] ∈ gS B i r)(j:∀q s,X [n,k,b,m,t,q,s] []=some (d,[])) :
  a_ (aP [ag 5,ag 6]) (bV (az dC (aa 5) (eV X))) (vv 6) (gS B i r) [n,k,b,m,t,none,none] []=some ([e],[]):=by
 obtain⟨_,_,g,hd,F,_⟩:=oE a x S z;simp only[P.tup.injEq,bN,cD]at g;obtain⟨rfl,rfl⟩:=g;rw[bx (p:=λy=>PyData.eqv (pd (oI y)) (pd d)) (f:=Lf) (Inv:=λL=>∃q s,L=[n,k,b,m,t,q,s]) (λv l L c=>?_) ⟨none,none,rfl⟩,KP (AJ a x S) z λy H=>?_]
 .rfl
 .obtain⟨w,u,rfl,h,o,_⟩:=oE a x S H;exact rM h hd o
 .obtain⟨q,s,rfl⟩:=c;obtain⟨w,u,rfl,h,o,_⟩:=oE a x S l;exact⟨[n,k,b,m,t,qp w,qp u],rfl,⟨_,_,rfl⟩,by simp[j,C7 h hd o F],λ_=>by simp[Lf]⟩
theorem zm{B:BD}(m:B=xE B.fams B.roads B.wishes)(f:Pln B.fams B.roads B.wishes)(L:Places B){n:Nat}(K:24≤n){s r a k:List P}{b c e:P}(h:Past B s r a k b c e):pureOf (Ph n "_law_past") [aB B,.tup [b,.tup [.tup s,.tup r]],.tup [c,.tup [.tup a,.tup k]]]=some (.bl true):=by
 obtain⟨n,rfl⟩:=fF (n:=n) (by first|assumption|lia);have w:=Al m f L (n:=n+1) (by lia) h.s1;have u:=Al m f L (n:=n+1) (by lia) h.s2;have i:=C8 m f L (n:=n+1) (by lia) h.s1 h.m1;have j:=C8 m f L (n:=n+1) (by lia) h.s2 h.m2;have l:(gS B s r).length≤1000000:=aM (uc f (n:=14) (by lia) h.s1 (AM f L h.s1)).1 (by lia);have g:(gS B a k).length≤1000000:=aM (uc f (n:=14) (by lia) h.s2 (AM f L h.s2)).1 (by lia);have q:=Db f L h.s1 h.m1 (X:=ab al (vv 2) (vi 0)) (n:=qp (aB B)) (k:=qt [b,.tup [.tup s,.tup r]]) (b:=qt [c,.tup [.tup a,.tup k]]) (m:=none) (t:=none) (λ_ _=>by simp);have v:=Db f L h.s2 h.m2 (X:=ab al (vv 1) (vi 0)) (n:=qp (aB B)) (k:=qt [b,.tup [.tup s,.tup r]]) (b:=qt [c,.tup [.tup a,.tup k]]) (m:=ql [e]) (t:=none) (λ_ _=>by simp);have H:cb 20 e=true:=ei h.ok.ok (by lia);have z:uN (.lst [e]) (.lst [e])=some false:=kH (Ku λx y=>by rw[fY.mp y];exact ei h.ok.ok (by lia));have o:=ub H;generalize gS B s r=E at w l q;generalize gS B a k=F at u g v;generalize P.tup [.tup s,.tup r]=t at *
 generalize P.tup [.tup a,.tup k]=p at *
 rw[rS,ah];show(match iN _ _ [qp (aB B),qt [b,t],qt [c,p],none,none] [] with|some (.rt d,_,S)=>(toP 9 d S).map (λx=>x.fst)|some (.nx,_,_)=>some .non|_=>none)=some (P.bl true);unfold iN;rw[aj (e:=[qp (aB B),qt [b,t],qt [c,p],ql [e],none]) (b:=[]) (by rw[cq,jQ];unfold aU;rw[d6];simp[w,l,jK,q])]
 rw[aj (e:=[qp (aB B),qt [b,t],qt [c,p],ql [e],ql [e]]) (b:=[]) (by rw[cq,jQ];unfold aU;rw[d6];simp[u,g,jK,v])]
 rw[aj (e:=[qp (aB B),qt [b,t],qt [c,p],ql [e],ql [e]]) (b:=[]) (by simp[b7,cy,z])];simp[i,j,o]
theorem kQ{g:iU}{b:ES}{Inv:Lc->Prop}:∀{c:List P}{L:Lc},(∀v ∈ c,∀L,Inv L->∃a L2,g v L=some a/\(b a []=some (.nx,L2,[])\/b a []=some (.ct,L2,[]))/\Inv L2)->Inv L->∃x,aR g b c L []=some (.nx,x,[])/\Inv x
 | [],L,_,h=>⟨L,rfl,h⟩
 |v::r,L,f,h=>by
  obtain⟨a,L2,s,e,m⟩:=f v List.mem_cons_self L h;obtain⟨x,n,k⟩:=kQ (c:=r) (λw hw=>f w (aS _ hw)) m;rcases e with e|e
  .exact⟨x,(bu s e).trans n,k⟩
  .exact⟨x,(Af s e).trans n,k⟩
theorem y6{s:List P}{lo a st:Option Int}{x:P}(h:x ∈ jM s lo a st):x ∈ s:=by unfold jM at h;obtain⟨i,_,e⟩:=ni.mp h;exact bH e
theorem HF{B:BD}(hB:B=xE B.fams B.roads B.wishes)(S:Pln B.fams B.roads B.wishes){n:Nat}(hn:26≤n){st:P}(hSt:ph B st)(a0 q3 V W H l:Option D) :
  ∃q3' m r q6' R,iO (Ph n) (Ph (n-1)) [a0,qp (aB B),qp st,q3,V,W,H,l] []=some (.nx,[a0,qp (aB B),qp st,q3',m,r,q6',R],[]):=by
 obtain⟨G,o,rfl,C⟩:=hSt;have M:Places B:=by rw[hB];exact xD _ _ _
 have Z:=Al hB S M (n:=n) (by lia) C;have l1:(gS B G o).length≤40000:=(uc S (n:=14) (by lia) C (AM S M C)).1;have ht:∀z ∈ gS B G o,∃d e,z=.tup [d,e]/\pureOf (Ph n "_law_touches") [aB B,.tup [.tup G,.tup o],d,e]=some (.bl true):=λz T=>by
  rcases nc S M C T with ⟨k,f,x,s,t,J,I,A,h,rfl⟩|⟨w,hw,T⟩
  .exact⟨_,_,rfl,Gp S M (by lia) C h⟩
  .obtain⟨a,c,sp,A,rfl,hr⟩:=wI S C hw T;exact⟨_,_,rfl,Gq S (by lia) C hw _ _ _ A⟩
 have hio:∀z ∈ gS B G o,∃d e b,z=.tup [d,e]/\pureOf (Ph n "_law_is_own") [aB B,d]=some (.bl b)/\(b=true->∃k f x s t J I A,StE B G o k f x s t J I A/\jf s/\z=dE G k s t J I A):=λz T=>by
  rcases nc S M C T with ⟨k,f,x,s,t,J,I,A,h,rfl⟩|⟨w,hw,T⟩
  .obtain⟨b,hb,e⟩:=CT S M (n:=n) (by lia) C h;exact⟨_,_,b,rfl,e,λq=>⟨k,f,x,s,t,J,I,A,h,hb q,rfl⟩⟩
  .obtain⟨a,c,sp,A,rfl,hr⟩:=wI S C hw T;exact⟨_,_,false,rfl,CU (B:=B) (by lia) hw _ _ _ _,λq=>(by cases q)⟩
 have hpa:∀X ∈ gS B G o,(∃k f x s t J I A,StE B G o k f x s t J I A/\jf s/\X=dE G k s t J I A)->∀K ∈ gS B G o,∃(d1 Z d2 e2:P)(w:Str)(U Q:Int)(r1 r2:List P),X=.tup [d1,Z]/\K=.tup [d2,e2]/\d1=.tup (.str "step"::.int U::r1)/\d2=.tup (.str w::.int Q::r2)/\((w="step"/\Q=U)\/(¬(w="step"/\Q=U)/\pureOf (Ph n "_law_past") [aB B,X,K]=some (.bl true))):=λX h1 ⟨j,f,x,s,t,J,I,A,a1,ho,e⟩ K h2=>by
  subst e;rcases nc S M C h2 with ⟨k,f2,x2,s2,t2,h2',as2,rs2,a2,rfl⟩|⟨w,hw,T⟩
  .refine⟨_,_,_,_,"step",(j:Int),(k:Int),_,_,rfl,rfl,rfl,rfl,?_⟩;by_cases q:j=k
   .exact .inl ⟨rfl,by rw[q]⟩
   .exact .inr ⟨λz=>q (by have:=z.2;lia),zm hB S M (by lia) (BC S M C a1 ho a2 q)⟩
  .obtain⟨a,c,sp,rs2,rfl,hr⟩:=wI S C hw T;have N:¬w="step":=by rcases hw with rfl|rfl<;>decide +kernel
   exact⟨_,_,_,_,w,(j:Int),(a:Int),_,_,rfl,rfl,rfl,rfl,.inr ⟨λz=>N z.1,zm hB S M (by lia) (BE S M C a1 ho hw hr T)⟩⟩
 generalize gS B G o=E at *
 generalize P.tup [.tup G,.tup o]=st at *
 generalize aB B=Y at *
 let i:Option D->Option D->Option D->Option D->Lc:=λV W H l=>[a0,qp Y,qp st,ql E,V,W,H,l]
 obtain⟨L1,f1,m,r,rfl⟩:=kQ (g:=aP [ag 4,ag 5]) (b:=km (Ph n) (Ph (n-1))) (Inv:=λL=>∃V W,L=i V W H l) (c:=E) (L:=i V W H l) (λv hv L F=>by obtain⟨V,W,rfl⟩:=F;obtain⟨d,e,rfl,et⟩:=ht v hv;exact⟨i (qp d) (qp e) H l,i (qp d) (qp e) H l,rfl,.inl (by simp[km,i,et]),_,_,rfl⟩) ⟨V,W,rfl⟩
 have ec:a_ (ag 8) (bT (eV (ae (pureOf (Ph n "_law_is_own")) (v2 (vv 1) (ab al (vv 8) (vi 0)))))) (vv 8) E [a0,qp Y,qp st,ql E,m,r,H,l,none] []=some (E.filter (λy=>match pureOf (Ph n "_law_is_own") [Y,oI y] with|some (.bl b)=>b|_=>false),[]):=by rw[bx (p:=λy=>match pureOf (Ph n "_law_is_own") [Y,oI y] with|some (.bl b)=>b|_=>false) (f:=id) (Inv:=λL=>∃q,L=[a0,qp Y,qp st,ql E,m,r,H,l,q]) (λv hv L F=>?_) ⟨none,rfl⟩,kA];obtain⟨q,rfl⟩:=F;obtain⟨d,e,b,rfl,eb,_⟩:=hio v hv;exact⟨[a0,qp Y,qp st,ql E,m,r,H,l,qt [d,e]],rfl,⟨_,rfl⟩,by simp[eb],λ_=>by simp⟩
 generalize hO:E.filter (λy=>match pureOf (Ph n "_law_is_own") [Y,oI y] with|some (.bl b)=>b|_=>false)=O at ec;have hO2:∀y ∈ O,y ∈ E/\∃k f x s t J I A,StE B G o k f x s t J I A/\jf s/\y=dE G k s t J I A:=λy hy=>by rw[<- hO]at hy;obtain⟨h1,h2⟩:=fy.mp hy;obtain⟨d,e,b,rfl,eb,hb⟩:=hio y h1;have h2:(match pureOf (Ph n "_law_is_own") [Y,d] with|some (.bl b)=>b|_=>false)=true:=h2;rw[eb]at h2;exact⟨h1,hb h2⟩
 have hl2:O.length≤40000:=by rw[<- hO];exact aM (hJ ..) l1
 obtain⟨L2,f2,q6',R,rfl⟩:=kQ (g:=ag 6) (b:=kn (Ph n) (Ph (n-1))) (Inv:=fun L=>∃H l,L=i m r H l) (c:=cut O none (some 5)) (L:=i m r H l) (fun v hv L F=>by
  obtain⟨H,l,rfl⟩:=F;obtain⟨h1,hv2⟩:=hO2 v (kU.1 v hv);obtain⟨L3,f3,R,rfl⟩:=kQ (g:=ag 7) (b:=iP (Ph n) (Ph (n-1))) (Inv:=fun L=>∃l,L=i m r (qp v) l) (c:=jM E none none (some (1+(E.length:Int) / 10))) (L:=i m r (qp v) l) (fun u hu L F=>by
   obtain⟨l,rfl⟩:=F;obtain⟨d1,Z,d2,e2,w,U,Q,r1,r2,rfl,rfl,rfl,rfl,hc⟩:=hpa v h1 hv2 u (y6 hu);have g1:L2.atI (P.str "step"::.int U::r1) 1=some (.int U):=aF (by decide) rfl;have g2:L2.atI (P.str w::.int Q::r2) 1=some (.int Q):=aF (by decide) rfl;have g0:L2.atI (P.str w::.int Q::r2) 0=some (.str w):=aF (by decide) rfl;refine⟨i m r (qt [.tup (.str "step"::.int U::r1),Z]) (qt [.tup (.str w::.int Q::r2),e2]),i m r (qt [.tup (.str "step"::.int U::r1),Z]) (qt [.tup (.str w::.int Q::r2),e2]),rfl,?_,_,rfl⟩;rcases hc with ⟨rfl,rfl⟩|⟨N,ep⟩
   .exact .inr (by simp[iP,i,g0,g1,g2])
   .refine .inl ?_;unfold iP;rw [aj (e:=i m r (qt [.tup (.str "step"::.int U::r1),Z]) (qt [.tup (.str w::.int Q::r2),e2])) (b:=[]) (by
     by_cases hw:w="step"
     .have hi:¬Q=U:=λz=>N ⟨hw,z⟩;simp[i,g0,g1,g2,hw,hi]
     .simp [i,g0,hw])]
    simp[i,ep]) ⟨l,rfl⟩
  refine⟨i m r (qp v) l,i m r (qp v) R,rfl,.inl ?_,_,_,rfl⟩;unfold kn;have N:¬(1+(E.length:Int) / 10)=0:=by lia
  rw[bC,d6];simp only[i]at f3;simp[i,b7,cy,N,f3]) ⟨H,l,rfl⟩
 refine⟨ql E,m,r,q6',R,?_⟩;unfold iO;rw[aj (e:=i V W H l) (b:=[]) (by simp[i,Z])];rw[aj (e:=i m r H l) (b:=[]) (by rw[bC,d6,show(vv 3) (i V W H l) []=some (.lst E,[]) by simp[i]];exact f1)];have hq:E.length≤1000000:=by lia
 have ev:(aU (gR (vv 3)) [] 1 (ag 8) (bT (eV (ae (pureOf (Ph n "_law_is_own")) (v2 (vv 1) (ab al (vv 8) (vi 0)))))) (vv 8)) (i m r H l) []=some (.lst O,[]):=by unfold aU;rw[d6];simp[i,hq,jK,ec]
 rw[bC,d6,A2,ev];simp only[i]at f2;simp[i,f2]
theorem AD{B:BD}(P:Pln B.fams B.roads B.wishes):ph B (.tup [.tup ((aq B.fams).map gY),.tup (List.replicate B.PR.length (.tup []))]):=by refine⟨_,_,rfl,by simp,λk f x n b=>?_,by simp,λr q=>⟨[],⟨by simp,λ_ h=>(by cases h)⟩,(qf.mp q).2⟩⟩;rw[List.getElem?_map,n]at b;cases b;obtain⟨v,a,m,e,o,s,F,rfl⟩:=ig P.hf (bH n);refine⟨v,a,m,e,o,s,rfl,0,e.map n_,List.replicate o.length (.int (-1)),rfl,len_pos F.r0,⟨by simp,λc p=>?_⟩,by simp,λw hw=>⟨_,(qf.mp hw).2⟩⟩;obtain⟨d,hd,rfl⟩:=aX.mp p;obtain⟨x,lo,l,t,_,u,g,i,j,rfl⟩:=F.hce.1 d hd;exact⟨t,by lia,rfl⟩
theorem EH{n:Nat}(O:30≤n)(s:List Int):pureOf (Ph n "law") [dc s]=some (.bl true):=by
 obtain⟨n,rfl⟩:=fF (n:=n) (by first|assumption|lia);obtain⟨f,r,w,c,K⟩:=Bw (n:=n+1) (by lia) s;generalize a:xE f r w=B;have t:B.fams=f:=by rw[<- a];rfl
 have q:B.roads=r:=by rw[<- a];rfl
 have hw:B.wishes=w:=by rw[<- a];rfl
 have M:B=xE B.fams B.roads B.wishes:=by rw[t,q,hw,a]
 rw [<- t,<- q,<- hw] at c K;clear a t q hw;obtain⟨st,u,G⟩:=DK c (n:=n+1) (by lia) s;have I:=AE (n:=n+1) (by lia) c;have k:pureOf (Ph (n+1) "begin") [aB B]=some (.tup [.tup ((aq B.fams).map gY),.tup (List.replicate B.PR.length (.tup []))]):=I;have A:=AD c;generalize P.tup [.tup ((aq B.fams).map gY),.tup (List.replicate B.PR.length (.tup []))]=F at k A;have C:=fun {st:P} (h:ph B st)=>HF M c (n:=n+1) (by lia) h;simp only [j7] at C;have p:pureOf (Ph (n+1) "_law_plan") [dc s,.int 3]=some (aB B):=K;obtain⟨N,J,_,_,_,_,_,_,rfl⟩:=kQ (g:=ag 2) (b:=iO (Ph (n+1)) (Ph n)) (Inv:=fun L=>∃E l y z o H,L=[qp (dc s),qp (aB B),E,l,y,z,o,H]) (c:=[st,F]) (L:=[qp (dc s),qp (aB B),none,none,none,none,none,none]) (fun v i L m=>by
  obtain⟨E,l,y,z,o,H,rfl⟩:=m;have j:ph B v:=by
   rcases bq.mp i with rfl|i
   .exact u
   .rw [fY.mp i];exact A
  obtain⟨_,_,_,_,_,e⟩:=C j (qp (dc s)) l y z o H;exact⟨_,_,rfl,.inl e,_,_,_,_,_,_,rfl⟩) ⟨_,_,_,_,_,_,rfl⟩
 generalize aB B=D at *
 rw[B',ah];show(match sM _ _ [qp (dc s),none,none,none,none,none,none,none] [] with|some (.rt d,_,S)=>(toP 9 d S).map (λx=>x.fst)|some (.nx,_,_)=>some .non|_=>none)=some (P.bl true);unfold sM;rw[aj (e:=[qp (dc s),qp D,none,none,none,none,none,none]) (b:=[]) (by simp[p])];rw[aj (by rw[bC,d6,show(aQ (v2 (ae (pureOf (Ph (n+1) "_law_standing")) (v2 (vv 0) (vv 1))) (ae (pureOf (Ph (n+1) "begin")) (v1 (vv 1))))) [qp (dc s),qp D,none,none,none,none,none,none] []=some (.lst [st,F],[]) by simp[G,k]];exact J)]
 rfl
theorem zJ{s:List Int}(l:s.length≤63)(h:yd H)(S:hX K H a (s.map V.int)):oO K (Iv Gv Att Tb 200 "law") [.ref a] H (λv _=>v=.bl true) (λ_ _ _=>False):=by have e:=EH (n:=200) (by decide) s;unfold Ph at e;exact EI h S e
end My
set_option tactic.hygienic true
namespace PySem.W.Fast
def tw5759813014719783769:Unit:=()
def tw9830039306278091039:Unit:=()
def tw7832835635142768340:Unit:=()
def tw7252390163864615776:Unit:=()
def tw5216090358327408053:Unit:=()
def tw12541414454459176688:Unit:=()
def tw14912837033632648169:Unit:=()
def tw5188800492248424924:Unit:=()
def tw12159287909569895602:Unit:=()
def tw11078358650666513505:Unit:=()
def tw2630489144659259372:Unit:=()
def tw16012889954392560712:Unit:=()
def tw767330702059714835:Unit:=()
def tw2811775426890655421:Unit:=()
def tw2123328814593407398:Unit:=()
def tw15298543067516742873:Unit:=()
def tw7655973530403966380:Unit:=()
def tw17351710119229161769:Unit:=()
def tw10720932349425679206:Unit:=()
def tw2489259538435873075:Unit:=()
def tw1289367722759390730:Unit:=()
def tw10196662044141163765:Unit:=()
def tw7887290618033800821:Unit:=()
def tw438216992620056650:Unit:=()
def tw12219179987764151564:Unit:=()
def tw9857751078221000802:Unit:=()
def tw17005733407765620067:Unit:=()
def tw17337301051838359849:Unit:=()
def tw6684888796320756662:Unit:=()
def tw11445745822342652975:Unit:=()
def tw7277441540106843486:Unit:=()
def tw12297704574417341909:Unit:=()
def tw10988388541364598258:Unit:=()
def tw5526728371248942543:Unit:=()
def tw11898174245382341706:Unit:=()
def tw17265046238743198202:Unit:=()
def tw11435737171536055175:Unit:=()
def tw11774557199424346737:Unit:=()
def tw7373796740736348592:Unit:=()
def tw8223133458821237962:Unit:=()
def tw2033047327224919015:Unit:=()
def tw1417083215868678813:Unit:=()
def tw5141308173880772961:Unit:=()
def tw9266498512908772674:Unit:=()
def tw13122602780663143431:Unit:=()
def tw285331110563351821:Unit:=()
def tw14981738221348283530:Unit:=()
def tw10870253115619400214:Unit:=()
def tw11909890106382484710:Unit:=()
def tw3088333348403203163:Unit:=()
def tw6282470546167464169:Unit:=()
def tw18074713384134630467:Unit:=()
def tw7820987548835901380:Unit:=()
def tw8931393377865143045:Unit:=()
def tw15193041716521463837:Unit:=()
def tw13979278446122460453:Unit:=()
def tw8927937819299629228:Unit:=()
def tw1211839369621517012:Unit:=()
def tw4617764083944766639:Unit:=()
def tw5304338672040876280:Unit:=()
def tw5227871689398700868:Unit:=()
def tw6371422155425393777:Unit:=()
def tw5468072913454726681:Unit:=()
def tw16782040145583181480:Unit:=()
def tw5552825454530097711:Unit:=()
def tw4442186826929106255:Unit:=()
def tw10486151923595514568:Unit:=()
def tw6464638323336590480:Unit:=()
def tw9961947149887591703:Unit:=()
def tw3249953416912526637:Unit:=()
def tw6900959349490378704:Unit:=()
def tw11747263765495222304:Unit:=()
def tw13399066542453335694:Unit:=()
def tw15752621784894498129:Unit:=()
def tw4133739713916238602:Unit:=()
def tw3751901075663892690:Unit:=()
def tw14035975443393283071:Unit:=()
def tw3028091222279432476:Unit:=()
def tw3383143890658402217:Unit:=()
def tw3448674810589856356:Unit:=()
def tw15946668766155379506:Unit:=()
def tw11898109431639216165:Unit:=()
def tw3985345932529654607:Unit:=()
def tw9239814000327912540:Unit:=()
def tw5518813334374070053:Unit:=()
def tw5983357424456200766:Unit:=()
def tw12901850221732914505:Unit:=()
def tw12043959613261184882:Unit:=()
def tw7832891871750867872:Unit:=()
def tw17476162732223762444:Unit:=()
def tw10210869558575346348:Unit:=()
def tw14939405386094325122:Unit:=()
def tw8545232338985239436:Unit:=()
def tw12904610168672941698:Unit:=()
def tw12112406112498331797:Unit:=()
def tw7752536622443310238:Unit:=()
def tw7525523362227945623:Unit:=()
def tw982521212529935505:Unit:=()
def tw7448420672191759639:Unit:=()
def tw6787023167572458607:Unit:=()
def tw16177549404784808083:Unit:=()
def tw17222821967304825419:Unit:=()
def tw1161055412130687029:Unit:=()
def tw1237832782364390859:Unit:=()
def tw257191202854379635:Unit:=()
def tw9777684145244225761:Unit:=()
def tw6969888147366912676:Unit:=()
def tw2181487508061922768:Unit:=()
def tw14829784496935736047:Unit:=()
def tw9667531149170930288:Unit:=()
def tw11599217067172669485:Unit:=()
def tw10268799312493379780:Unit:=()
def tw11672300983835237436:Unit:=()
def tw15178137786622010718:Unit:=()
def tw9150628218015506491:Unit:=()
def tw17730921789096368880:Unit:=()
def tw12655145991275345910:Unit:=()
def tw280531884378305595:Unit:=()
def tw15648478995786170719:Unit:=()
def tw14810576802637359022:Unit:=()
def tw4679793306434753748:Unit:=()
def tw3573336110807586925:Unit:=()
def tw13700216284612678093:Unit:=()
def tw10265400604068514446:Unit:=()
def tw69787481792271319:Unit:=()
def tw11544270594683582954:Unit:=()
def tw12873013484636142641:Unit:=()
def tw4679145656193772349:Unit:=()
def tw4685937919110365740:Unit:=()
def tw8342331420680577925:Unit:=()
def tw16641853452230940615:Unit:=()
def tw126007792924066186:Unit:=()
def tw15920013889243799097:Unit:=()
def tw8462272714011684980:Unit:=()
def tw2144872345808180000:Unit:=()
def tw13878546216725607642:Unit:=()
def tw2027922288925624986:Unit:=()
def tw18396064810099814026:Unit:=()
def tw9626096136301392164:Unit:=()
def tw6027633712505367152:Unit:=()
def tw9358943542358299851:Unit:=()
def tw12095659200342546197:Unit:=()
def tw5067313686452125960:Unit:=()
def tw7396003331849911967:Unit:=()
def tw10742883528797324559:Unit:=()
def tw945977228398283571:Unit:=()
def tw12489411176694991077:Unit:=()
def tw6997280574696122179:Unit:=()
def tw3345101070853413567:Unit:=()
def tw15468228973081866704:Unit:=()
def tw1378564363044193778:Unit:=()
def tw14209075112747030165:Unit:=()
def tw8211120401142314477:Unit:=()
def tw17655277901947646092:Unit:=()
def tw15697124086046715709:Unit:=()
def tw16050128713633937403:Unit:=()
def tw2334944951714173749:Unit:=()
def tw2325190688397785673:Unit:=()
def tw15024692317207799356:Unit:=()
def tw7743555787112358038:Unit:=()
def tw6569611675085645856:Unit:=()
def tw14123772757300504117:Unit:=()
def tw1196411004276550032:Unit:=()
def tw11512748142964272577:Unit:=()
def tw7735710275991189914:Unit:=()
def tw8734151358257611859:Unit:=()
def tw13472953314855085488:Unit:=()
def tw10550388308212994992:Unit:=()
def tw2730494710008048065:Unit:=()
def tw1795863912746787524:Unit:=()
def tw5134486956636552132:Unit:=()
def tw15672650428061389039:Unit:=()
def tw10971054922018184418:Unit:=()
def tw3112399038353225701:Unit:=()
def tw15934132745891610541:Unit:=()
def tw8626842913068000390:Unit:=()
def tw13329904697036721859:Unit:=()
def tw3860933577211160173:Unit:=()
def tw9314859557261338789:Unit:=()
def tw3554563546909036777:Unit:=()
def tw13442565496097231215:Unit:=()
def tw4666823181263914802:Unit:=()
def tw3528322737295382900:Unit:=()
def tw15493100586310711108:Unit:=()
def tw16811341943874224362:Unit:=()
def tw3413151911725104813:Unit:=()
def tw6807864978565484265:Unit:=()
def tw5713136476748891957:Unit:=()
def tw10859397576553828500:Unit:=()
def tw16362052444997003057:Unit:=()
def tw17187912237326539364:Unit:=()
def tw17063226500255640915:Unit:=()
def tw13591131855216460582:Unit:=()
def tw15250945992256458902:Unit:=()
def tw3495105724167384870:Unit:=()
def tw10738998912827153468:Unit:=()
def tw15531294942712491958:Unit:=()
def tw3106952772411882776:Unit:=()
def tw8351452812416625981:Unit:=()
def tw10927173441683157362:Unit:=()
def tw15147113854850348027:Unit:=()
def tw8039747518001376740:Unit:=()
def tw7403317113234457604:Unit:=()
def tw5741399564964186934:Unit:=()
end PySem.W.Fast
open PySem PySem.W PyProof.Rows
set_option maxRecDepth 100000 in
set_option maxHeartbeats 0 in
theorem PySem.Challenge.cw_roadsall_k23_whole_own_steps_go_past_holds : PySem.Challenge.rw_roadsall_k23_whole_own_steps_go_past.Holds := by
 w_on;o_law;k_head;(case hw=>w_witness2)
 k_fill
 refine L2.yt (l:=PySem.Challenge.rw_roadsall_k23_whole_own_steps_go_past) (n:=63) (k:=200) (x:="_law_script") (CX:=L2.qc) (sp:=fun K=>Ev.oO K (Ev.Iv My.Gv My.Att My.Tb 200 "law")) rfl (by decide) rfl ⟨rfl,by decide,by decide⟩ (fun w h Y=>PySem.W.kIn_of Y) ?F ?S ?C
 case F=>
  intro w mg fa h KX G hmg
  have T:Ev.TOk w My.Gv My.Att My.Tb (L2.LO KX) mg:=by
   dsimp only [L2.LO]
   refine' My.Fi KX G ?ca0 ?cb0 ?cc0 ?cd0' ?ce0 ?cf0 ?cg0 ?na0_0 ?na0_1 ?na0_2 ?na0_3 ?na0_4 ?h0 ?h1 ?h2 ?h3 ?h4 ?h5 ?h6 ?h7 ?h8 ?h9 ?h10 ?h11 ?h12 ?h13 ?h14 ?h15 ?h16 ?h17 ?h18 ?h19 ?h20 ?h21 ?h22 ?h23 ?h25 ?h26 ?h27 ?h28 ?h30 ?h31 ?h32 ?h33 ?h34 ?h35 ?h36 ?h37 ?h38 ?h40 ?h41 ?h42 ?h43 ?h44 ?h45 ?h46 ?a24 ?w24 ?l24 ?c24 ?k24 ?a29 ?w29 ?l29 ?c29 ?k29 ?a39 ?w39 ?l39 ?c39 ?k39 ?gv0 ?gv1 ?z
   (case ca0=>k_is)
   (case cb0=>k_is)
   (case cc0=>k_is)
   (case cd0'=>k_is)
   (case ce0=>k_is)
   (case cf0=>k_is)
   (case cg0=>k_is)
   (case na0_0=>k_is)
   (case na0_1=>k_is)
   (case na0_2=>k_is)
   (case na0_3=>k_is)
   (case na0_4=>k_is)
   case h0 | h1 | h2 | h3 | h4 | h5 | h6 | h7 | h8 | h9 | h10 | h11 | h12 | h13 | h14 | h15 | h16 | h17 | h18 | h19 | h20 | h21 | h22 | h23 | h25 | h26 | h27 | h28 | h30 | h31 | h32 | h33 | h34 | h35 | h36 | h37 | h38 | h40 | h41 | h42 | h43 | h44 | h45 | h46=>exact⟨_,_,_,_,_,_,_,_,_,_,by k_is,by k_is,by k_is,by k_is⟩
   (case a24=>k_is)
   (case w24=>k_is)
   (case l24=>k_is)
   (case c24=>k_is)
   (case k24=>k_is)
   (case a29=>k_is)
   (case w29=>k_is)
   (case l29=>k_is)
   (case c29=>k_is)
   (case k29=>k_is)
   (case a39=>k_is)
   (case w39=>k_is)
   (case l39=>k_is)
   (case c39=>k_is)
   (case k39=>k_is)
   case gv0 | gv1=>exact⟨_,by k_is⟩
   case z=>
    intro x hx
    simp only [Ev.Cp,List.mem_cons,List.not_mem_nil,or_false] at hx
    rcases hx with rfl | rfl | rfl | rfl | rfl | rfl | rfl | rfl | rfl | rfl | rfl | rfl | rfl | rfl | rfl | rfl | rfl | rfl | rfl <;> k_is
  obtain⟨f,fd,h1⟩:=T.fn My.sw (by simp [My.Tb])
  have e0:=hmg.symm.trans (h1.gl (by decide +kernel))
  cases e0
  refine⟨fd,?_,fun base kb nb=>((Ev.wP T 200).1 My.sw (by simp [My.Tb]) _ fd h1.fn)⟩
  obtain⟨oc,od,kV,doc,pm,an,cdv,ct,osl,rfl,lk,hcd⟩:=h1.fn.ex
  exact fun s v=>.of_eq rfl
 case S=>exact fun w H a ns hl hO hS=>My.zJ hl hO hS
 case C=>exact fun _ _ _ _ z=>z
