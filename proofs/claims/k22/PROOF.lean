import PyProof.Rows.All
import Wide.All
import OpenK.AllK
import Wide.FinOn
import Lean
import PyProof.EqAt
import PyProof.EqKinds
import PyProof.TupleCall
import PySem.Challenge.RW_roadsall_k22_deeds_that_arent
set_option Elab.async false
set_option linter.all false
set_option maxRecDepth 100000
set_option maxHeartbeats 4000000
noncomputable section
abbrev VP:=PySem.Value->PySem.Shared->Prop
abbrev PN:=List (PySem.Addr×PySem.Obj)
abbrev SV:=PySem.Str->Option PySem.Value
abbrev Aa:=PySem.Addr->Prop
abbrev LS:=List PySem.Str
abbrev LV:=List PySem.Value
abbrev Ab:=List PySem.Expr
abbrev OV:=Option PySem.Value
abbrev FG:=PySem.W.Frag
abbrev aX:=@List.getElem?_set_ne
abbrev a6:=@List.mem_cons_of_mem
abbrev aS:=@of_decide_eq_true
abbrev bL:=@List.mem_of_getElem?
abbrev bc:=@List.all_eq_true
abbrev bt:=@List.length_cons
abbrev dY:=@List.getElem?_eq_getElem
abbrev aU:=@Nat.le_trans
abbrev ba:=@List.mem_cons
abbrev dX:=@List.getElem?_set_self
abbrev a7:=@List.length_map
abbrev b_:=@List.length_append
abbrev b9:=@Bool.false_ne_true
abbrev cg:=@Nat.lt_of_lt_of_le
abbrev fK:=@List.getElem?_append_right
abbrev cn:=@decide_eq_false
abbrev fu:=@Option.map_eq_some_iff
abbrev d5:=@Int.emod_lt_of_pos
abbrev dB:=@List.not_mem_nil
abbrev bM:=@Nat.ne_of_lt
abbrev dA:=@List.mem_append
abbrev dw:=@Int.emod_nonneg
abbrev cP:=@PySem.W.mg_of
abbrev gi:=@List.mem_append_right
abbrev d4:=@PySem.W.kia_one
abbrev dZ:=@List.length_set
abbrev cO:=@Nat.ne_of_gt
abbrev cN:=@List.mem_map
abbrev iQ:=@List.getD_eq_getElem?_getD
abbrev gh:=@List.replicate_succ
abbrev iP:=@List.getElem?_take_of_lt
abbrev gc:=@List.getElem_mem
abbrev eT:=@List.all_cons
abbrev eD:=@Int.zero_add
abbrev lB:=@List.eq_nil_of_length_eq_zero
abbrev jz:=@List.set_getElem_self
abbrev fq:=@Nat.zero_add
abbrev iO:=@List.mem_singleton
abbrev ij:=@List.nil_append
abbrev kz:=@List.length_filter_le
abbrev jy:=@Nat.add_sub_cancel
abbrev du:=@or_false
abbrev ky:=@List.mem_append_left
abbrev jx:=@List.flatMap_cons
abbrev iN:=@List.mem_filter
abbrev iM:=@List.foldl_cons
abbrev iL:=@List.find?_cons
abbrev kx:=@beq_eq_false_iff_ne
abbrev nC:=@PyProof.Rows.callWith_type1
abbrev jw:=@PySem.wpAny_truthy_bool
abbrev ig:=@List.any_cons
abbrev lA:=@PySem.F.slot_dict_get
abbrev jv:=@Bool.or_eq_true
abbrev ku:=@PySem.wpAny_Call_Name_kw
abbrev lz:=@List.mem_of_mem_take
abbrev ju:=@decide_eq_true
abbrev kt:=@PySem.Calls.spliced_nil
abbrev ly:=@Nat.lt_of_le_of_lt
abbrev iK:=@Nat.le_of_lt
abbrev lx:=@List.mem_filterMap
abbrev iJ:=@List.map_nil
abbrev jt:=@Nat.lt_irrefl
abbrev lw:=@List.flatten_cons
abbrev nB:=@List.mem_iff_getElem
abbrev qK:=@List.mem_of_find?_eq_some
abbrev nA:=@PySem.mem_of_lookup
abbrev nz:=@Array.length_toList
abbrev jr:=@Sum.inr.inj
abbrev ny:=@PySem.W.kitx_list
abbrev qJ:=@PySem.F.entry_dict_get
abbrev nw:=@PySem.tupleKind_room_in1
abbrev kr:=@PyProof.Rows.slot_tuple_getitem
abbrev nv:=@List.mem_flatMap
abbrev nu:=@List.any_eq_true
abbrev qI:=@PySem.W.looks_findIn
abbrev qH:=@List.mem_of_mem_drop
abbrev qG:=@List.filterMap_cons
abbrev lu:=@Nat.lt_trans
abbrev qF:=@PySem.W.callWith_K
abbrev qE:=@Bool.false_eq_true
abbrev nr:=@PySem.wpAny_passesOwn
abbrev uY:=@List.mem_or_eq_of_mem_set
abbrev qD:=@PySem.Heap.SameBut.update
abbrev lq:=@PySem.codeAny_mono
abbrev uX:=@PySem.F.args_tuple_add_2
abbrev jq:=@if_false
abbrev uW:=@PySem.F.plainAttrs_list
abbrev uV:=@PySem.F.plainAttrs_dict
abbrev uU:=@PySem.F.entry_tuple_add
abbrev qC:=@Nat.lt_succ_self
abbrev qB:=@List.take_length
abbrev qA:=@List.lookup_cons
abbrev uT:=@List.getElem?_replicate
abbrev uS:=@List.filter_cons_of_pos
abbrev uR:=@List.filter_cons_of_neg
abbrev uQ:=@PySem.F.slot_tuple_add
abbrev uP:=@PyProof.Rows.boot_list
abbrev nq:=@List.map_map
abbrev lm:=@PySem.sizeLine_eq
abbrev qz:=@List.find?_some
abbrev m5:=@List.cons.injEq
abbrev mZ:=@Bool.eq_iff_iff
abbrev qW:=@List.getElem?_eq_none
abbrev mY:=@List.mem_range
abbrev mX:=@List.drop_zero
abbrev qV:=@PySem.F.slot_zip_getattribute
abbrev kO:=@PySem.wpAny_typeOf
abbrev kN:=@PySem.call_meetsIn
abbrev qU:=@PySem.W.plainGet_of
abbrev qT:=@List.filter_eq_self
abbrev kM:=@beq_iff_eq
abbrev qS:=@PySem.Heap.get?_update_self
abbrev wc:=@List.findIdx?_eq_some_iff_getElem
abbrev iR:=@if_true
abbrev qR:=@decide_eq_true_eq
abbrev qQ:=@Nat.le_of_succ_le
abbrev qP:=@Option.bind_some
abbrev qO:=@List.range'_succ
abbrev qN:=@List.drop_length
abbrev qM:=@List.cons_append
abbrev qL:=@Bool.not_eq_true
abbrev mW:=@Nat.le_succ
namespace L2
open PySem PySem.Spec PyProof.Rows
noncomputable abbrev bz:=Sum Int Str
noncomputable def pZ:bz->Value->Bool
 | .inl k,v=>Value.isInt k v
 | .inr x,v=>Value.isStrOf x v
noncomputable def K4(w:World):bz->Int
 | .inl k=>hashInt k
 | .inr x=>hashStr w x
theorem cI:∀{k:bz}{v:Value},pZ k v=true->(∃i t,k=Sum.inl i/\v=Value.int i t)\/(∃x t,k=Sum.inr x/\v=Value.str x t)
 | .inl i,v,h=>by obtain⟨t,e⟩:=Value.isInt_shape (k:=i) (v:=v) h;exact .inl ⟨i,t,rfl,e⟩
 | .inr x,v,h=>by obtain⟨t,e⟩:=Value.isStrOf_shape (x:=x) (v:=v) h;exact .inr ⟨x,t,rfl,e⟩
theorem xS(i:Int)(t:Tok):pZ (.inl i) (.int i t)=true:=by simp[pZ,Value.isInt]
theorem xR(x:Str)(t:Tok):pZ (.inr x) (.str x t)=true:=by simp[pZ,Value.isStrOf]
theorem EM(a b:Int):decide ((Sum.inl a:bz)=Sum.inl b)=(a == b):=by
 by_cases e:a=b
 .subst e;simp
 .have h:¬(Sum.inl a:bz)=Sum.inl b:=λq=>e (Sum.inl.inj q);rw[cn h];exact(kx.mpr e).symm
theorem EJ(a b:Str):decide ((Sum.inr a:bz)=Sum.inr b)=decide (a=b):=by
 by_cases e:a=b
 .subst e;simp
 .have h:¬(Sum.inr a:bz)=Sum.inr b:=λq=>e (jr q);rw[cn h,cn e]
theorem EL(a:Int)(b:Str):decide ((Sum.inl a:bz)=Sum.inr b)=false:=cn (λq=>nomatch q)
theorem EK(a:Str)(b:Int):decide ((Sum.inr a:bz)=Sum.inl b)=false:=cn (λq=>nomatch q)
def bH(prog:Program)(w:World):PySem.KeyKind prog w bz where
 is:=pZ
 hash:=K4 w
 inj:=λv a b c f=>by
  rcases cI c with ⟨i,t,rfl,rfl⟩|⟨x,t,rfl,rfl⟩
  .rcases cI f with ⟨j,u,rfl,e⟩|⟨y,u,rfl,e⟩
   .injection e with s _;rw[s]
   .exact nomatch e
  .rcases cI f with ⟨j,u,rfl,e⟩|⟨y,u,rfl,e⟩
   .exact nomatch e
   .injection e with s _;rw[s]
 byValue:=λk v h=>by rcases cI h with ⟨i,t,rfl,rfl⟩|⟨x,t,rfl,rfl⟩<;>rfl
 pyHash:=λn h=>by
  rcases cI n with ⟨i,t,rfl,rfl⟩|⟨x,t,rfl,rfl⟩
  .exact wpAny_pyHash_int h
  .exact wpAny_pyHash_str h
 eqBool:=λm n h=>by
  rcases cI m with ⟨i,t,rfl,rfl⟩|⟨x,t,rfl,rfl⟩
  .rcases cI n with ⟨j,u,rfl,rfl⟩|⟨y,u,rfl,rfl⟩
   .rw [EM]at h;exact wpAny_eqBool_int h
   .rw [EL]at h;exact SeqAt.EqAt.int_str i t y u _ _ _ _ h
  .rcases cI n with ⟨j,u,rfl,rfl⟩|⟨y,u,rfl,rfl⟩
   .rw [EK]at h;exact SeqAt.EqAt.str_int x t j u _ _ _ _ h
   .rw [EJ]at h;exact wpAny_eqBool_str h
 «strs»:=λk x t v h=>by
  rcases cI h with ⟨i,u,rfl,e⟩|⟨y,u,rfl,e⟩
  .exact nomatch e
  .injection e with s _;subst s;cases v<;>rfl
theorem tP(prog:Program)(w:World)(i:Int)(t:Tok):(bH prog w).is (.inl i) (.int i t)=true:=xS i t
theorem tN(prog:Program)(w:World)(x:Str)(t:Tok):(bH prog w).is (.inr x) (.str x t)=true:=xR x t
inductive V where
 |non|bl (b:Bool)|int (i:Int)|str (x:Str)|byt (b:Array UInt8)|flt (b:UInt64)|ref (a:Addr)|ty (n:String)
 deriving DecidableEq
def RelV:V->Value->Prop
 | .non,u=>u=Value.none
 | .bl b,u=>u=Value.bool b
 | .int i,u=>∃t,u=Value.int i t
 | .str x,u=>∃t,u=Value.str x t
 | .byt b,u=>∃t,u=Value.bytes b t
 | .flt b,u=>∃t,u=Value.float b t
 | .ref a,u=>u=Value.ref a
 | .ty n,u=>u=Value.type n
abbrev aM:List V->LV->Prop:=Paired RelV
variable{Y:LV}
theorem aM.length(r:aM xs Y):xs.length=Y.length:=Paired.length r
theorem aM.get:∀{xs:List V}{Y:LV}{i:Nat}{x:V},aM xs Y->xs[i]? = some x->∃u,Y[i]? = some u/\RelV x u
 |_,_,_,_,.nil,e=>by simp at e
 |_,_,0,_,.cons r _,e=>by simp at e;subst e;exact⟨_,rfl,r⟩
 |_,_,i+1,x,.cons _ t,e=>by obtain⟨u,J,h2⟩:=aM.get (i:=i) (x:=x) t (by simpa using e);exact⟨u,by simpa using J,h2⟩
variable{u:Value}
theorem aM.set(r:RelV x u):∀{xs:List V}{Y:LV}(i:Nat),aM xs Y->aM (xs.set i x) (Y.set i u)
 |_,_,_,.nil=>.nil
 |_,_,0,.cons _ t=>.cons r t
 |_,_,i+1,.cons q t=>.cons q (aM.set r i t)
theorem aM.append:∀{xs ys:List V}{Y w:LV},aM xs Y->aM ys w->aM (xs++ys) (Y++w)
 |_,_,_,_,.nil,s=>s
 |_,_,_,_,.cons r t,s=>.cons r (aM.append t s)
theorem aM.take:∀{xs:List V}{Y:LV}(n:Nat),aM xs Y->aM (xs.take n) (Y.take n)
 |_,_,0,_=>.nil
 |_,_,_+1,.nil=>.nil
 |_,_,n+1,.cons r t=>.cons r (aM.take n t)
theorem aM.drop:∀{xs:List V}{Y:LV}(n:Nat),aM xs Y->aM (xs.drop n) (Y.drop n)
 |_,_,0,r=>r
 |_,_,_+1,.nil=>.nil
 |_,_,n+1,.cons _ t=>aM.drop n t
def jj:Option V->OV->Prop
 |some v,some u=>RelV v u
 |none,none=>True
 |_,_=>False
def KV:List (κ×V)->List (κ×Value)->Prop:=Paired λ(p:κ×V)(q:κ×Value)=>p.1=q.1/\RelV p.2 q.2
noncomputable def kV:bz->V
 | .inl i=>.int i
 | .inr x=>.str x
def mU(h:Heap)(a:Addr)(i:Array Value):Prop:=∃o,h.get? a=some o/\(o.cls=.type "tuple"/\∃n,o.data=.seq i n)/\o.dict=none
variable{h:Heap}{a:Addr}
theorem mU.tup(x:mU h a N):IsTup h a N:=by obtain⟨o,e,c,_⟩:=x;exact⟨o,e,c⟩
theorem mU.lt(x:mU h a N):a < h.objs.size:=x.tup.lt
theorem mU.new(h:Heap)(i:Array Value):mU (h.push { cls:=.type "tuple",data:=.seq i }) h.objs.size i:=⟨_,Heap.get?_push_size _ rfl,⟨rfl,_,rfl⟩,rfl⟩
inductive HO where
 |lst (xs:List V)
 |tup (xs:List V)
 |dK (kvs:List (bz×V))|dT (kvs:List (List bz×V))
 |set (S:Int->Bool) (n:Nat)
 |ins (C dx:Addr) (fs:List (Str×V))
 |own (x:Addr)
 |xd (fs:List (Str×V))
 |met (f x:Addr)
 |rng (lo hi:Int)
 |frz (o:Obj) (u:HO)
 |tbl (ps:Array Value)
 |ext (φ:Heap->Prop)
noncomputable abbrev Hp:=Addr->Option HO
noncomputable def bW(H:Hp)(a:Addr)(o:HO):Hp:=λb=>if b=a then some o else H b
variable{H:Hp}
theorem aE:bW H a o a=some o:=by unfold bW;rw[if_pos rfl]
variable{b:Addr}
theorem ao(h:b≠a):bW H a o b=H b:=by unfold bW;rw[if_neg h]
theorem HC{H:Hp}{a b:Addr}{o u:HO}(h:H a=some o)(h':H b=some u)(d:o≠u):a≠b:=by intro e;subst e;rw[h]at h';exact d (Option.some.inj h')
theorem cQ(h:H a=some o)(h':H b=none):a≠b:=by intro e;subst e;rw[h]at h';cases h'
section
variable(P:Program)(w:World)
def cf(H:Hp)(h:Heap)(a:Addr):HO->Prop
 | .lst xs=>xs.length≤sizeLine/\∃(i:LV)(n:Nat),aM xs i/\h.get? a=some { cls:=.type "list",data:=.seq i.toArray n }
 | .tup xs=>xs.length≤sizeLine/\∃i:LV,aM xs i/\mU h a i.toArray
 | .dK j=>j.length≤sizeLine/\(a == sysModules)=false/\∃k,KV j k/\h.DictOf (bH P w) a k
 | .dT j=>j.length≤sizeLine/\(a == sysModules)=false/\∃xs:List (List bz×Addr×Value),
   Paired (λ(p:List bz×V)(e:List bz×Addr×Value)=>p.1=e.1/\H e.2.1=some (.tup (p.1.map kV))/\RelV p.2 e.2.2) j xs /\
   ∃o es b,h.get? a=some o/\o.ExactDict/\o.data=.dict es b/\es.toList=xs.map (entryOfKey (tupleKind (bH P w)))/\(xs.map (·.1)).Nodup
 | .set S n=>h.SetOf (intKind P w) a S n
 | .ins C dx fs=>H dx=some (.own a)/\fs.length≤1000/\dx≠a/\h.get? a=some (PySem.W.instObj C dx) /\
   ∃mA,h.Ns1 dx mA/\(∀f,jj (fs.lookup f) (mA f))/\PySem.Within mA (fs.map (·.1))
 | .own _=>∃o,h.get? a=some o
 | .xd fs=>∃mA,h.Ns1 a mA/\∀f,jj (fs.lookup f) (mA f)
 | .rng I q=>∃t u v,h.get? a=some { cls:=.type "range",data:=.fields #[.int I t,.int q u,.int 1 v] }
 | .frz o u=>h.get? a=some o/\cf H h a u
 | .tbl ps=>h.get? a=some { cls:=.none,data:=.fields ps }
 | .met f x=>h.get? a=some (PySem.W.methodObj (.ref f) (.ref x))
 | .ext s=>s h/\(∃o,h.get? a=some o)/\∀J h2:Heap,s J->(∀o,J.get? a=some o->h2.get? a=some o)->s h2
def jk(H:Hp)(h:Heap):Prop:=∀a o,H a=some o->cf P w H h a o
end
section
variable{P:Program}{w:World}{H H':Hp}{h h':Heap}{a:Addr}{o:HO}
theorem cf.lt(x:cf P w H h a o):a < h.objs.size:=by
 cases o with
 |lst xs=>obtain⟨_,_,_,_,e⟩:=x;exact Heap.lt_size e
 |tup xs=>obtain⟨_,_,_,p⟩:=x;exact p.lt
 |dK j=>obtain⟨_,_,_,_,o,_,_,e,_⟩:=x;exact Heap.lt_size e
 |dT j=>obtain⟨_,_,_,_,o,_,_,e,_⟩:=x;exact Heap.lt_size e
 |set S n=>obtain⟨o,_,_,_,e,_⟩:=x;exact Heap.lt_size e
 |ins C dx fs=>obtain⟨_,_,_,e,_⟩:=x;exact Heap.lt_size e
 |own y=>obtain⟨_,e⟩:=x;exact Heap.lt_size e
 |xd fs=>obtain⟨_,⟨_,_,_,e,_⟩,_⟩:=x;exact Heap.lt_size e
 |rng I q=>obtain⟨_,_,_,e⟩:=x;exact Heap.lt_size e
 |frz b u=>obtain⟨e,_⟩:=x;exact Heap.lt_size e
 |tbl ps=>exact Heap.lt_size (show h.get? a=some _ from x)
 |met f y=>exact Heap.lt_size (show h.get? a=some _ from x)
 |ext s=>obtain⟨_,⟨_,e⟩,_⟩:=x;exact Heap.lt_size e
theorem Paired.mapP:∀{l:List α}{h:List β},Paired F l h->(∀a b,F a b->N a b)->Paired N l h
 |_,_,.nil,_=>.nil
 |_,_,.cons r t,f=>.cons (f _ _ r) (Paired.mapP t f)
theorem cf.stay(x:cf P w H h a o)(k:∀b u,(b=a\/H b=some (.own a))->h.get? b=some u->h'.get? b=some u)
  (K:∀b,H b=some (.own a)->H' b=some (.own a)) (A:∀b xs,H b=some (.tup xs)->H' b=some (.tup xs)):cf P w H' h' a o:=by
 induction o with
 |lst xs=>obtain⟨z,i,n,r,e⟩:=x;exact⟨z,i,n,r,k _ _ (.inl rfl) e⟩
 |tup xs=>obtain⟨z,i,r,m,e,c⟩:=x;exact⟨z,i,r,m,k _ _ (.inl rfl) e,c⟩
 |dK j=>obtain⟨z,y,E,r,m,es,g,e,c⟩:=x;exact⟨z,y,E,r,m,es,g,k _ _ (.inl rfl) e,c⟩
 |dT j=>obtain⟨z,y,xs,r,m,es,g,e,c⟩:=x;exact⟨z,y,xs,Paired.mapP r λp s z=>⟨z.1,A _ _ z.2.1,z.2.2⟩,m,es,g,k _ _ (.inl rfl) e,c⟩
 |set S n=>obtain⟨m,es,g,t,e,c⟩:=x;exact⟨m,es,g,t,k _ _ (.inl rfl) e,c⟩
 |ins C dx fs=>obtain⟨d,z,D,e,mA,⟨l,es,g,F,c⟩,r⟩:=x;exact⟨K _ d,z,D,k _ _ (.inl rfl) e,mA,⟨l,es,g,k _ _ (.inr d) F,c⟩,r⟩
 |own y=>obtain⟨m,e⟩:=x;exact⟨m,k _ _ (.inl rfl) e⟩
 |xd fs=>obtain⟨mA,⟨l,es,g,e,c⟩,r⟩:=x;exact⟨mA,⟨l,es,g,k _ _ (.inl rfl) e,c⟩,r⟩
 |rng I q=>obtain⟨t,u,v,e⟩:=x;exact⟨t,u,v,k _ _ (.inl rfl) e⟩
 |frz m u B=>obtain⟨e,s⟩:=x;exact⟨k _ _ (.inl rfl) e,B s⟩
 |tbl ps=>have e:h.get? a=some { cls:=.none,data:=.fields ps }:=x;show h'.get? a=some { cls:=.none,data:=.fields ps };exact k a _ (.inl rfl) e
 |met f y=>have e:h.get? a=some (PySem.W.methodObj (.ref f) (.ref y)):=x;show h'.get? a=some (PySem.W.methodObj (.ref f) (.ref y));exact k a _ (.inl rfl) e
 |ext G=>obtain⟨p,⟨o,e⟩,st⟩:=x;exact⟨st _ _ p λo s=>k _ _ (.inl rfl) s,⟨o,k _ _ (.inl rfl) e⟩,st⟩
theorem jk.lt(x:jk P w H h)(e:H a=some o):a < h.objs.size:=(x a o e).lt
theorem jk.fresh(x:jk P w H h)(e:h.objs.size≤a):H a=none:=by
 cases q:H a with
 |none=>rfl
 |some u=>exact absurd (cg (x.lt q) e) (jt _)
theorem jk.kept(x:jk P w H h)(k:∀b u,h.get? b=some u->h'.get? b=some u):jk P w H h':=λa o e=>
 (x a o e).stay (λb u _ q=>k b u q) (λ_ q=>q) λ_ _ q=>q
theorem jk.laid(x:jk P w H h)(k:∀b u,h.get? b=some u->h'.get? b=some u)(p:h.objs.size≤a)(n:cf P w (bW H a o) h' a o):jk P w (bW H a o) h':=λb u e=>by
 have f:=x.fresh p;by_cases s:b=a
 .subst s;rw[aE]at e;cases e;exact n
 .rw [ao s]at e;exact(x b u e).stay (λc v _ q=>k c v q) (λc q=>by rw[ao (cQ q f)];exact q) λc xs q=>by rw[ao (cQ q f)];exact q
end
def Rd(H:Hp)(a:Addr)(u:HO):Prop:=H a=some u\/∃o,H a=some (.frz o u)
theorem Rd.ok{P:Program}{w:World}{H:Hp}{h:Heap}{a:Addr}{u:HO}(r:Rd H a u)(x:jk P w H h):cf P w H h a u:=by
 rcases r with r|⟨o,r⟩
 .exact x a u r
 .obtain⟨_,q⟩:=x a _ r;exact q
def IZ:Option HO->Prop
 |some (.lst _)=>True
 |some (.dK _)=>True
 |some (.dT _)=>True
 |some (.set _ _)=>True
 |some (.ins _ _ _)=>True
 |some (.ext _)=>True
 |_=>False
section
variable{P:Program}{w:World}{H:Hp}{h h':Heap}{x e:Addr}{o':HO}
theorem jk.write(ok:jk P w H h)(m:IZ (H x))(d:e=x\/H e=some (.own x))(k:∀b u,b≠e->h.get? b=some u->h'.get? b=some u)(o:∃u,h'.get? e=some u)
  (p:cf P w (bW H x o') h' x o'):jk P w (bW H x o') h':=λb u q=>by
 have n:∀c y,H c=some (.own y)->c≠x:=λc y r z=>by subst z;rw[r]at m;exact m
 have t:∀c xs,H c=some (.tup xs)->c≠x:=λc xs r z=>by subst z;rw[r]at m;exact m
 by_cases s:b=x
 .subst s;rw[aE]at q;cases q;exact p
 .rw [ao s]at q;by_cases a:b=e
  .have g:H b=some (.own x):=by
    rcases d with z|z
    .exact absurd (a.trans z) s
    .rw [a];exact z
   rw[q]at g;cases g;obtain⟨v,i⟩:=o;exact⟨v,by rw[a];exact i⟩
  .refine (ok b u q).stay (λc v f r=>k c v ?_ r) (λc r=>by rw[ao (n c b r)];exact r) λc xs r=>by rw[ao (t c xs r)];exact r
   rcases f with rfl|f
   .exact a
   .rintro rfl;rcases d with z|z
    .exact n c b f z
    .rw [f]at z;cases z;exact s rfl
end
structure Un(fs ex:List Addr)(H H':Hp)(h h':Heap):Prop where
 keep:∀b o,h.get? b=some o->H b=none->b ∉ fs->b ∉ ex->h'.get? b=some o
 slot:∀b o,h.get? b=some o->H b=none->b ∈ fs->b ∉ ex->∃sl,h'.get? b=some { o with slots:=sl }
 free:∀b o,h.get? b=some o->H b=none->b ∉ ex->H' b=none
 there:∀b o,h.get? b=some o->b ∉ ex->∃o',h'.get? b=some o'
 tups:∀b xs,H b=some (.tup xs)->H' b=some (.tup xs)
 frzs:∀b o u,H b=some (.frz o u)->H' b=some (.frz o u)
 tbls:∀b ps,H b=some (.tbl ps)->∃more,H' b=some (.tbl (ps++more))
section
variable{fs fs' ex ex':List Addr}{H U H2:Hp}{h J h2 h':Heap}{a x e:Addr}{o:HO}
theorem Un.any(u:Un fs ex H U h J)(q:h.get? b=some N)(n:H b=none)(a:b ∉ ex):∃s,J.get? b=some { N with slots:=s }:=by
 by_cases x:b ∈ fs
 .exact u.slot b N q n x a
 .exact⟨N.slots,u.keep b N q n x a⟩
theorem Un.kept(k:∀b u,h.get? b=some u->h'.get? b=some u):Un fs ex H H h h':=
 ⟨λb o q _ _ _=>k b o q,λb o q _ _ _=>⟨o.slots,k b o q⟩,λ_ _ _ n _=>n,λb o q _=>⟨o,k b o q⟩,λ_ _ q=>q,λ_ _ _ q=>q,λ_ ps q=>⟨#[],by rw[q];simp⟩⟩
theorem Un.refl:Un fs ex H H h h:=Un.kept λ_ _ q=>q
theorem Un.laid(k:∀b u,h.get? b=some u->h'.get? b=some u)(p:h.objs.size≤a)(x:H a=none):Un fs ex H (bW H a o) h h' where
 keep:=λb u q _ _ _=>k b u q
 slot:=λb u q _ _ _=>⟨u.slots,k b u q⟩
 free:=λb u q n _=>by rw[ao (bM (cg (Heap.lt_size q) p))];exact n
 there:=λb u q _=>⟨u,k b u q⟩
 tups:=λb xs q=>by rw[ao (cQ q x)];exact q
 frzs:=λb u xs q=>by rw[ao (cQ q x)];exact q
 tbls:=λb ps q=>⟨#[],by rw[ao (cQ q x),q];simp⟩
theorem Un.write(m:IZ (H x))(p:e=x\/H e=some (.own x))(k:∀b u,b≠e->h.get? b=some u->h'.get? b=some u)(s:∃u,h'.get? e=some u):Un fs ex H (bW H x o) h h':=by
 have t:∀b,H b=none->b≠x:=λb n z=>by subst z;rw[n]at m;exact m
 have c:∀b,H b=none->b≠e:=λb n z=>by
  subst z;rcases p with r|r
  .exact t b n r
  .rw [n]at r;cases r
 have f:∀b u,H b=some u->¬IZ (some u)->b≠x:=λb u q nm z=>by subst z;rw[q]at m;exact nm m
 refine⟨fun b u q n _ _=>k b u (c b n) q,fun b u q n _ _=>⟨u.slots,k b u (c b n) q⟩,fun b u q n _=>by rw [ao (t b n)];exact n,fun b u q _=>?_,
  λb xs q=>by rw[ao (f b _ q λz=>z)];exact q,λb u xs q=>by rw[ao (f b _ q λz=>z)];exact q,λb ps q=>⟨#[],by rw[ao (f b _ q λz=>z),q];simp⟩⟩
 by_cases a:b=e
 .subst a;exact s
 .exact⟨u,k b u a q⟩
end
noncomputable def trk(h:Heap)(H:Hp):List Addr:=(List.range h.objs.size).filter λa=>(H a).isSome
def rW(h:Heap)(H:Hp):Heap:=PySem.W.hideAll h (trk h H)
theorem xZ(h:Heap)(H:Hp):(rW h H).objs.size=h.objs.size:=PySem.W.hideAll_size _ _
variable{o:Obj}
theorem Al(e:h.get? b=some o)(n:H b=none):(rW h H).get? b=some o:=
 PySem.W.hideAll_get _ e λm=>by have q:(H b).isSome=true:=(iN.mp m).2;rw[n]at q;simp at q
theorem BR(e:(rW h H).get? b=some o):h.get? b=some o/\H b=none:=by
 have a:h.get? b=some o:=PySem.W.of_hideAll (trk h H) e;refine⟨a,?_⟩;cases q:H b with
 |none=>rfl
 |some x=>have m:b ∈ trk h H:=iN.mpr ⟨mY.mpr (Heap.lt_size a),by simp[q]⟩;have z:(rW h H).get? b=none:=PySem.W.hideAll_none (trk h H) m;rw[z]at e;cases e
noncomputable def j6(g h:Heap)(L:Addr):PN:=(List.range h.objs.size).filterMap λa=>if a=L\/(g.get? a).isSome=true then none else (h.get? a).map λo=>(a,o)
variable{g:Heap}{L:Addr}
theorem tR(J:a≠L)(h2:g.get? a=none)(x:h.get? a=some o):(a,o) ∈ j6 g h L:=
 lx.mpr ⟨a,mY.mpr (Heap.lt_size x),by simp[J,h2,x]⟩
theorem nW(x:p ∈ j6 g h L):p.1≠L/\g.get? p.1=none/\h.get? p.1=some p.2:=by
 obtain⟨b,_,e⟩:=lx.mp x;split at e
 .cases e
 .rename_i n;cases q:h.get? b with
  |none=>rw[q]at e;simp at e
  |some u=>
   rw[q]at e;simp only[Option.map_some,Option.some.injEq]at e;subst e;refine⟨λz=>n (.inl z),?_,q⟩;show g.get? b=none;cases r:g.get? b with
   |none=>rfl
   |some v=>exact(n (.inr (by simp[r]))).elim
def bO(g h:Heap)(L d:Addr):PN:=(j6 g h L).filter λp=>decide (p.1≠d)
theorem zH:News g L h (j6 g h L):=λp x=>let ⟨a,b,c⟩:=nW x;⟨c,a,b⟩
structure Mod(K:FG)(mg:SV)(base:Heap):Prop where
 kin:K.In base
 glob:base.Ns mainGlobals mg
 blt:∃mb,base.Ns builtinsNs mb/\∀x:Str,x≠"__name__"->mb x=bootBuiltins x
 nolimit:base.NoLimit
structure Cx where
 prog:Program
 w:World
 K:FG
 mg:SV
 base:Heap
 A:Around
 N:LS
 s₀:Shared
 H₀:Hp
 env:Env
 outer:List Env
 stack:List Env
 ex:List Addr
 fn:Str->Bool
 calm:Bool
 pn:PN
 xe:VP
noncomputable def kf(l:List Env):List Addr:=l.filterMap (·.frame)
abbrev Cx.fs(X:Cx):List Addr:=kf X.outer
def Db(sc:Scope)(x:Str):Prop:=sc.names.lookup x=some .local\/sc.names.lookup x=some .cell\/sc.names.lookup x=some .free
def Loc(sc:Scope)(x:Str):Prop:=sc.names.lookup x=some .local\/sc.names.lookup x=some .cell
def Look(e:Env)(h:Heap)(m:SV)(x:Str)(u:Value):Prop:=
 (e.kindOf x=some .local/\m x=some u)\/((e.kindOf x=some .cell\/e.kindOf x=some .free)/\∃c,e.cells.lookup x=some c/\h.IsCell c (some u))
structure Cx.Ok(X:Cx):Prop where
 mod:Mod X.K X.mg X.base
 kind:X.env.scope.kind=.function
 glob:X.env.globals=mainGlobals
 blt:X.env.builtins=builtinsNs
 above:X.s₀.heap.objs.size≤X.env.locals
 inj:∀x y c,X.env.cells.lookup x=some c->X.env.cells.lookup y=some c->x=y
 has:∀x,(X.env.kindOf x=some .cell\/X.env.kindOf x=some .free)->∃c,X.env.cells.lookup x=some c
 cab:∀x c,X.fn x=true->X.env.cells.lookup x=some c->X.s₀.heap.objs.size≤c
 hd:X.calm=true->X.A.handled=none
 frames:X.A.frames=some X.stack
 stk:X.stack=X.outer\/(X.stack=X.env::X.outer/\X.env.frame=some X.env.locals)
 exf:∀b ∈ X.ex,b≠X.env.locals/\∀x c,X.env.cells.lookup x=some c->c≠b
 bs:∀b o,X.base.get? b=some o->X.s₀.heap.get? b=some o/\X.H₀ b=none
 bsz:X.base.objs.size≤X.s₀.heap.objs.size
 noex:∀b o,X.base.get? b=some o->b ∉ X.ex
 exfs:∀b ∈ X.ex,b ∉ X.fs
 funs:X.s₀.heap.FunFrames X.base X.outer
 frf:∀b ∈ X.fs,X.H₀ b=none
structure Inv(X:Cx)(pins:PN)(σ:List (Option V))(H:Hp)(s:Shared):Prop where
 ok:X.Ok
 os:s.os=X.s₀.os
 bare:AllBare s.gens
 base:Un X.fs X.ex X.H₀ H X.s₀.heap s.heap
 loc:∃m,s.heap.Ns X.env.locals m/\∀(i:Nat)(x:Str)(v:V),X.N[i]? = some x->σ[i]? = some (some v)->Db X.env.scope x->∃u,RelV v u/\Look X.env s.heap m x u
 cell:∀x c,X.env.cells.lookup x=some c->∃v,s.heap.IsCell c v
 free:H X.env.locals=none
 freeC:∀x c,X.env.cells.lookup x=some c->H c=none
 pin:∀p ∈ X.pn++pins,s.heap.get? p.1=some p.2/\H p.1=none/\p.1≠X.env.locals/\p.1 ∉ X.fs/\∀v,p.2.data≠.cell v
 hok:jk X.prog X.w H s.heap
 len:σ.length=X.N.length
section
variable{X:Cx}{B:PN}{G:List (Option V)}{H H':Hp}{s:Shared}{h':Heap}
theorem Cx.Ok.nofr(ok:X.Ok)(e:X.base.get? b=some o):b ∉ X.fs:=λh=>by have:=(ok.funs.mem h).1;rw[e]at this;cases this
theorem Inv.bs(I:Inv X B G H s):∀b o,X.base.get? b=some o->s.heap.get? b=some o/\H b=none:=λb o e=>
 ⟨I.base.keep b o (I.ok.bs b o e).1 (I.ok.bs b o e).2 (I.ok.nofr e) (I.ok.noex b o e),I.base.free b o (I.ok.bs b o e).1 (I.ok.bs b o e).2 (I.ok.noex b o e)⟩
theorem Inv.bk(I:Inv X B G H s):∀b o,X.base.get? b=some o->s.heap.get? b=some o:=λb o e=>(I.bs b o e).1
theorem Inv.mod(I:Inv X B G H s):Mod X.K X.mg X.base:=I.ok.mod
theorem Inv.kIn(I:Inv X B G H s):X.K.In s.heap:=I.ok.mod.kin.keeps I.bk
theorem Inv.fr(I:Inv X B G H s):∃m,Fr X.base X.env.locals s.heap m:=
 let ⟨m,h,_⟩:=I.loc
 ⟨m,h,I.bk,aU I.ok.bsz I.ok.above⟩
theorem Inv.lt(I:Inv X B G H s):X.env.locals < s.heap.objs.size:=let ⟨_,h,_⟩:=I.loc;h.lt
theorem Inv.sz(I:Inv X B G H s):X.s₀.heap.objs.size≤s.heap.objs.size:=aU I.ok.above (iK I.lt)
theorem Inv.nofs(I:Inv X B G H s)(h:s.heap.objs.size≤a):a ∉ X.fs:=λb=>by obtain⟨_,o,x,_⟩:=I.ok.funs.mem b;exact absurd (cg (Heap.lt_size x) (aU I.sz h)) (jt _)
theorem Inv.cne(I:Inv X B G H s):∀x c,X.env.cells.lookup x=some c->c≠X.env.locals:=λx c e z=>by obtain⟨v,o,n,hd⟩:=I.cell x c e;obtain⟨m,⟨o',es,p,a,h,_⟩,_⟩:=I.loc;rw[z,a]at n;cases n;rw[h]at hd;cases hd
theorem Inv.funs(I:Inv X B G H s):s.heap.FunFrames X.base X.outer:=by
 have all:∀(l:List Env),(∀b ∈ kf l,b ∈ X.fs)->X.s₀.heap.FunFrames X.base l->s.heap.FunFrames X.base l:=by
  intro l;induction l with
  |nil=>intro _ _;trivial
  |cons n r i=>
   intro a c;obtain⟨k,⟨L,o,f,m,t,hd⟩,p⟩:=c;have h:L ∈ X.fs:=a L (by unfold kf;rw[qG,f];exact List.mem_cons_self);obtain⟨q,e⟩:=I.base.slot L o t (I.ok.frf L h) h λz=>I.ok.exfs L z h
   exact⟨k,⟨L,_,f,m,e,hd⟩,i (λb x=>a b (by unfold kf;rw[qG,f];exact a6 _ x)) p⟩
 exact all X.outer (λ_ x=>x) I.ok.funs
theorem Inv.stack(I:Inv X B G H s):s.heap.FunFrames X.base X.stack:=by
 rcases I.ok.stk with e|⟨e,h⟩
 .rw [e];exact I.funs
 .rw [e];obtain⟨m,n,_⟩:=I.loc;refine .cons (by rw[I.ok.kind];decide) h n ?_ I.funs;exact Heap.get?_none_of_le (aU I.ok.bsz I.ok.above)
theorem Inv.stkSub(I:Inv X B G H s):∀b ∈ kf X.stack,b ∈ X.env.locals::X.fs:=λb h=>by
 rcases I.ok.stk with e|⟨e,f⟩
 .rw [e]at h;exact a6 _ h
 .rw [e]at h;unfold kf at h;rw[qG,f]at h;exact h
theorem Inv.stkFree(I:Inv X B G H s):∀b ∈ kf X.stack,H b=none:=λb h=>by
 rcases ba.mp (I.stkSub b h) with e|h
 .rw [e];exact I.free
 .obtain⟨_,o,x,_⟩:=I.ok.funs.mem h;exact I.base.free b o x (I.ok.frf b h) λz=>I.ok.exfs b z h
theorem Inv.step{g':Array GenState}{t':Nat}{d':Drawn}{ch:List Addr}(I:Inv X B G H s)
  (a:∀b ∈ ch,(b ∈ X.ex\/X.s₀.heap.objs.size≤b)/\b≠X.env.locals/\(∀x c,X.env.cells.lookup x=some c->c≠b)/\∀p ∈ X.pn++B,p.1≠b)
  (t:∀b o,b≠X.env.locals->b ∉ X.fs->b ∉ ch->s.heap.get? b=some o->H b=none->h'.get? b=some o)
  (slot:∀b o,b≠X.env.locals->b ∈ X.fs->b ∉ ch->s.heap.get? b=some o->H b=none->∃J,h'.get? b=some { o with slots:=J }) (f:∀b o,b ∉ ch->s.heap.get? b=some o->H b=none->H' b=none)
  (y:∀b o,b ∉ ch->s.heap.get? b=some o->∃o',h'.get? b=some o')
  (D:∀b xs,H b=some (.tup xs)->H' b=some (.tup xs)) (P:∀b o u,H b=some (.frz o u)->H' b=some (.frz o u)) (A:∀b ps,H b=some (.tbl ps)->∃more,H' b=some (.tbl (ps++more)))
  (ns:∀m,s.heap.Ns X.env.locals m->h'.Ns X.env.locals m) (E:jk X.prog X.w H' h') (U:AllBare g') :
  Inv X B G H' { s with heap:=h',gens:=g',drawn:=d',toks:=t' }:=by
 have L:∀b o,X.s₀.heap.get? b=some o->b≠X.env.locals:=λb o e=>bM (cg (Heap.lt_size e) I.ok.above);have C:∀b o,X.s₀.heap.get? b=some o->b ∉ X.ex->b ∉ ch:=λb o e h j=>by
  rcases(a b j).1 with z|z
  .exact h z
  .exact absurd (cg (Heap.lt_size e) z) (jt _)
 have K:∀x c,X.env.cells.lookup x=some c->∀v,s.heap.IsCell c v->h'.IsCell c v:=λx c e v Y=>by
  obtain⟨o,S,hd⟩:=Y;have w:c ∉ ch:=λz=>(a c z).2.2.1 x c e rfl;by_cases N:c ∈ X.fs
  .obtain⟨J,q⟩:=slot c o (I.cne x c e) N w S (I.freeC x c e);exact⟨_,q,hd⟩
  .exact⟨o,t c o (I.cne x c e) N w S (I.freeC x c e),hd⟩
 refine⟨I.ok,I.os,U,⟨λb o e n j h=>?_,λb o e n j h=>?_,λb o e n h=>?_,λb o e h=>?_,λb xs e=>D b xs (I.base.tups b xs e),λb o xs e=>P b o xs (I.base.frzs b o xs e),λb ps e=>?_⟩,?_,λx c e=>?_,?_,λx c e=>?_,λp O=>?_,E,I.len⟩
 .exact t b o (L b o e) j (C b o e h) (I.base.keep b o e n j h) (I.base.free b o e n h)
 .obtain⟨J,g⟩:=I.base.slot b o e n j h;obtain⟨M,F⟩:=slot b _ (L b o e) j (C b o e h) g (I.base.free b o e n h);exact⟨M,F⟩
 .obtain⟨o',g⟩:=I.base.there b o e h;exact f b o' (C b o e h) g (I.base.free b o e n h)
 .obtain⟨o',g⟩:=I.base.there b o e h;exact y b o' (C b o e h) g
 .obtain⟨Z,g⟩:=I.base.tbls b ps e;obtain⟨m2,F⟩:=A b _ g;exact⟨Z++m2,by rw[F,Array.append_assoc]⟩
 .obtain⟨m,W,V⟩:=I.loc;refine⟨m,ns m W,λi x v g F T=>?_⟩;obtain⟨u,r,l⟩:=V i x v g F T;refine⟨u,r,?_⟩;rcases l with l|⟨k,c,e,z⟩
  .exact .inl l
  .exact .inr ⟨k,c,e,K x c e _ z⟩
 .obtain⟨v,z⟩:=I.cell x c e;exact⟨v,K x c e v z⟩
 .obtain⟨m,⟨o,_,_,S,_⟩,_⟩:=I.loc;exact f _ o (λz=>(a _ z).2.1 rfl) S I.free
 .obtain⟨v,o,S,hd⟩:=I.cell x c e;exact f c o (λz=>(a c z).2.2.1 x c e rfl) S (I.freeC x c e)
 .obtain⟨e,n,Q,R,d⟩:=I.pin p O;have w:p.1 ∉ ch:=λz=>(a p.1 z).2.2.2 p O rfl;exact⟨t p.1 p.2 Q R w e n,f p.1 p.2 w e n,Q,R,d⟩
theorem Inv.un{t':Nat}(I:Inv X B G H s)(u:Un X.fs [] H H' s.heap h')(k:jk X.prog X.w H' h'):Inv X B G H' { s with heap:=h',toks:=t' }:=by
 obtain⟨m,⟨o,es,q,f,r⟩,_⟩:=id I.loc;obtain⟨l,L⟩:=u.any f I.free (by simp);exact I.step (g':=s.gens) (d':=s.drawn) (ch:=[]) (λ_ z=>nomatch z) (λb o _ a _ e n=>u.keep b o e n a (by simp)) (λb o _ a _ e n=>u.slot b o e n a (by simp)) (λb o _ e n=>u.free b o e n (by simp)) (λb o _ e=>u.there b o e (by simp)) u.tups u.frzs u.tbls (λv c=>by obtain⟨o',x,p,h,t⟩:=c;rw[f]at h;cases h;exact⟨_,x,p,L,t⟩) k I.bare
theorem Inv.call{g':Array GenState}{t':Nat}{d':Drawn}{ch:List Addr}(I:Inv X B G H s)(u:Un (kf X.stack) ch H H' s.heap h')(q:jk X.prog X.w H' h')(g:AllBare g')
  (a:∀b ∈ ch,(b ∈ X.ex\/X.s₀.heap.objs.size≤b)/\b≠X.env.locals/\(∀x c,X.env.cells.lookup x=some c->c≠b)/\∀p ∈ X.pn++B,p.1≠b) :
  Inv X B G H' { s with heap:=h',gens:=g',drawn:=d',toks:=t' }:=by
 obtain⟨m,⟨o,es,j,v,r⟩,_⟩:=id I.loc;obtain⟨y,L⟩:=u.any v I.free λz=>(a _ z).2.1 rfl;exact I.step (ch:=ch) a (λb o L d h e n=>u.keep b o e n (λz=>(ba.mp (I.stkSub b z)).elim L d) h) (λb o _ _ h e n=>u.any e n h) (λb o h e n=>u.free b o e n h) (λb o h e=>u.there b o e h) u.tups u.frzs u.tbls (λl w=>by obtain⟨o',t,f,k,i⟩:=w;rw[v]at k;cases k;exact⟨_,t,f,L,i⟩) q g
theorem Inv.turned{t':Nat}{i:Addr}(I:Inv X B G H s)(k:∀b o,b≠i->s.heap.get? b=some o->h'.get? b=some o)(g:H i=none)(L:i≠X.env.locals)
  (J:i ∈ X.ex\/X.s₀.heap.objs.size≤i) (h2:∀x c,X.env.cells.lookup x=some c->c≠i) (f:∀p ∈ X.pn++B,p.1≠i):Inv X B G H { s with heap:=h',toks:=t' }:=by
 have t:∀b u,H b=some u->b≠i:=λb u e z=>by rw[z,g]at e;cases e
 refine I.step (g':=s.gens) (d':=s.drawn) (ch:=[i]) (λb d=>?_) (λb o _ _ h e _=>k b o (λz=>h (by simp[z])) e) (λb o _ _ h e _=>⟨o.slots,k b o (λz=>h (by simp[z])) e⟩) (λ_ _ _ _ n=>n)
  (λb o h e=>⟨o,k b o (λz=>h (by simp[z])) e⟩) (λ_ _ e=>e) (λ_ _ _ e=>e) (λb ps e=>⟨#[],by rw[e];simp⟩) (λm w=>?_) (λb u e=>?_) I.bare
 .have e:b=i:=by simpa using d
  subst e;exact⟨J,L,h2,f⟩
 .obtain⟨o,es,a,j,r⟩:=w;exact⟨o,es,a,k _ o (Ne.symm L) j,r⟩
 .refine (I.hok b u e).stay (λc v h q=>k c v ?_ q) (λ_ q=>q) λ_ _ q=>q;rcases h with z|z
  .rw [z];exact t b u e
  .exact t c _ z
theorem Inv.tok(I:Inv X B G H s)(t:Nat):Inv X B G H { s with toks:=t }:=I.un (h':=s.heap) (t':=t) Un.refl I.hok
theorem Inv.kept{t':Nat}(I:Inv X B G H s)(k:∀b u,s.heap.get? b=some u->h'.get? b=some u):Inv X B G H { s with heap:=h',toks:=t' }:=I.un (Un.kept k) (I.hok.kept k)
theorem Inv.laid{a:Addr}{o:HO}{t':Nat}(I:Inv X B G H s)(k:∀b u,s.heap.get? b=some u->h'.get? b=some u)(h:s.heap.objs.size≤a)(n:cf X.prog X.w (bW H a o) h' a o) :
  Inv X B G (bW H a o) { s with heap:=h',toks:=t' }:=I.un (Un.laid k h (I.hok.fresh h)) (I.hok.laid k h n)
theorem Inv.write{x e:Addr}{o:HO}{t:Nat}(I:Inv X B G H s)(m:IZ (H x))(a:e=x\/H e=some (.own x))(k:∀b u,b≠e->s.heap.get? b=some u->h'.get? b=some u)(h:∃u,h'.get? e=some u)
  (n:cf X.prog X.w (bW H x o) h' x o):Inv X B G (bW H x o) { s with heap:=h',toks:=t }:=I.un (Un.write m a k h) (I.hok.write m a k h n)
theorem Inv.pins_of(I:Inv X B G H s)(h:∀p ∈ N,s.heap.get? p.1=some p.2/\H p.1=none/\p.1≠X.env.locals/\p.1 ∉ X.fs/\∀v,p.2.data≠.cell v):Inv X N G H s:=
 ⟨I.ok,I.os,I.bare,I.base,I.loc,I.cell,I.free,I.freeC,λp x=>(dA.mp x).elim (λz=>I.pin p (ky _ z)) (h p),I.hok,I.len⟩
theorem nX{N:LS}(s:N.Nodup){i j:Nat}{x:Str}(a:N[i]? = some x)(b:N[j]? = some x):i=j:=by obtain⟨J,e⟩:=List.getElem?_eq_some_iff.mp a;obtain⟨h2,h⟩:=List.getElem?_eq_some_iff.mp b;exact(List.getElem_inj s).mp (e.trans h.symm)
theorem lH{M:Model}{A:Around}{E:VP}{i:Nat}{x:Str}{v:V}{u:Value}{Q:Unit->Shared->Prop}(I:Inv X B G H s)(hN:X.N.Nodup)(q:X.N[i]? = some x)(F:Loc X.env.scope x)(r:RelV v u)
  (h:∀z,Inv X B (G.set i (some v)) H z->(∃a,Heap.SameBut a s.heap z.heap/\(a=X.env.locals\/X.env.cells.lookup x=some a))->Q () z) (hf:X.fn x=true\/X.env.scope.names.lookup x=some .local:=by first|exact .inl rfl|exact .inr rfl|assumption):wpAny M A (storeName X.env x u) Q E s:=by
 obtain⟨m,hn,hl⟩:=id I.loc;have U:(X.env.scope.kind == .class ||(X.env.scope.kind == .module && X.env.locals != X.env.globals))=false:=by rw[I.ok.kind];rfl
 have C:i < G.length:=by rw[I.len];exact(List.getElem?_eq_some_iff.mp q).1
 have J:=I.cne;have l:∀{a:Addr}{h':Heap},(∃o,s.heap.get? a=some o/\H a=none)->Heap.SameBut a s.heap h'->jk X.prog X.w H h':=λ{a h'} ha w b ob e=>by
  obtain⟨_,_,K⟩:=ha;refine(I.hok b ob e).stay (λc w' S f=>(w.2 c ?_).trans f) (λ_ f=>f) λ_ _ f=>f;rintro rfl;rcases S with rfl|S
  .rw [K]at e;cases e
  .rw [K]at S;cases S
 rcases F with D|D
 .refine wpAny_storeName_local D hn (λh' hn' w=>?_) U;obtain⟨oL,_,_,hoL,_⟩:=id hn;refine h _ ⟨I.ok,I.os,I.bare,⟨λb o e n L F=>?_,λb o e n L F=>?_,I.base.free,λb o e F=>?_,I.base.tups,I.base.frzs,I.base.tbls⟩,⟨_,hn',λj y v' g P e3=>?_⟩,λy c e=>?_,I.free,I.freeC,λp hp=>?_,l ⟨oL,hoL,I.free⟩ w,by simpa using I.len⟩ ⟨_,w,.inl rfl⟩
  .exact (w.2 b (bM (cg (Heap.lt_size e) I.ok.above))).trans (I.base.keep b o e n L F)
  .obtain⟨sl,g⟩:=I.base.slot b o e n L F;exact⟨sl,(w.2 b (bM (cg (Heap.lt_size e) I.ok.above))).trans g⟩
  .obtain⟨o',g⟩:=I.base.there b o e F;exact⟨o',(w.2 b (bM (cg (Heap.lt_size e) I.ok.above))).trans g⟩
  .by_cases O:j=i
   .subst O;rw[q]at g;cases g;rw[dX C]at P;cases P;exact⟨u,r,.inl ⟨D,by simp⟩⟩
   .rw [aX (Ne.symm O)]at P;obtain⟨u',r',f⟩:=hl j y v' g P e3;refine⟨u',r',?_⟩;rcases f with ⟨k,e⟩|⟨k,c,e,t⟩
    .refine .inl ⟨k,?_⟩;have:y≠x:=λe=>O (nX hN g (e ▸ q));simp[this,e]
    .exact .inr ⟨k,c,e,t.sameBut w (J y c e)⟩
  .obtain⟨w',t⟩:=I.cell y c e;exact⟨w',t.sameBut w (J y c e)⟩
  .obtain⟨e,n,ne,nf,d⟩:=I.pin p hp;exact⟨(w.2 p.1 ne).trans e,n,ne,nf,d⟩
 .have N:X.fn x=true:=by
   rcases hf with t|t
   .exact t
   .rw [t]at D;cases D
  obtain⟨c,S⟩:=I.ok.has x (.inl D);obtain⟨w',t⟩:=I.cell x c S;refine wpAny_storeName_cell I.ok.kind D S t (λh' R w=>?_);obtain⟨oc,W,Y⟩:=id t;refine h { s with heap:=h' } ⟨I.ok,I.os,I.bare,⟨λb o e n L F=>?_,λb o e n L F=>?_,I.base.free,λb o e F=>?_,I.base.tups,I.base.frzs,I.base.tbls⟩,⟨m,hn.sameBut w (Ne.symm (J x c S)),λj y v' g P e3=>?_⟩,λy Z e=>?_,I.free,I.freeC,λp hp=>?_,l ⟨oc,W,I.freeC x c S⟩ w,by simpa using I.len⟩ ⟨c,w,.inr S⟩
  .exact (w.2 b (bM (cg (Heap.lt_size e) (I.ok.cab x c N S)))).trans (I.base.keep b o e n L F)
  .obtain⟨sl,g⟩:=I.base.slot b o e n L F;exact⟨sl,(w.2 b (bM (cg (Heap.lt_size e) (I.ok.cab x c N S)))).trans g⟩
  .obtain⟨o',g⟩:=I.base.there b o e F;exact⟨o',(w.2 b (bM (cg (Heap.lt_size e) (I.ok.cab x c N S)))).trans g⟩
  .by_cases O:j=i
   .subst O;rw[q]at g;cases g;rw[dX C]at P;cases P;exact⟨u,r,.inr ⟨.inl D,c,S,R⟩⟩
   .rw [aX (Ne.symm O)]at P;obtain⟨u',r',f⟩:=hl j y v' g P e3;refine⟨u',r',?_⟩;rcases f with f|⟨k,Z,e,z'⟩
    .exact .inl f
    .refine .inr ⟨k,Z,e,z'.sameBut w ?_⟩;rintro rfl;exact O (nX hN g (I.ok.inj _ _ _ e S ▸ q))
  .by_cases T:Z=c
   .subst T;exact⟨_,R⟩
   .obtain⟨w2,z2⟩:=I.cell y Z e;exact⟨w2,z2.sameBut w T⟩
  .obtain⟨e,n,ne,nf,d⟩:=I.pin p hp;refine⟨(w.2 p.1 ?_).trans e,n,ne,nf,d⟩;intro f;rw[f,W]at e;have q':oc=p.2:=Option.some.inj e;exact d w' (by rw[<- q'];exact Y)
theorem tq(I:Inv X B G H s)(N:X.N.Nodup)(q:X.N[i]? = some x)(e:Loc X.env.scope x)(r:RelV v u)
  (h:∀z,Inv X B (G.set i (some v)) H z->Q () z) (f:X.fn x=true\/X.env.scope.names.lookup x=some .local:=by first|exact .inl rfl|exact .inr rfl|assumption):wpAny M A (storeName X.env x u) Q E s:=
 lH I N q e r (λz a _=>h z a) f
theorem Inv.call'(I:Inv X B G H s)(n:z.os=s.os)(u:Un (kf X.stack) N H H' s.heap z.heap)(o:jk X.prog X.w H' z.heap)(a:AllBare z.gens)
  (h:∀b ∈ N,(b ∈ X.ex\/X.s₀.heap.objs.size≤b)/\b≠X.env.locals/\(∀x c,X.env.cells.lookup x=some c->c≠b)/\∀p ∈ X.pn++B,p.1≠b):Inv X B G H' z:=by
 obtain⟨h',g,d,t,o'⟩:=z;have e:o'=s.os:=n;subst e;exact I.call (g':=g) (t':=t) (d':=d) u o a h
end
noncomputable abbrev XK:=Value->Option Addr->Hp->Prop
noncomputable abbrev St:=List (Option V)
noncomputable abbrev VK:=V->Hp->Prop
noncomputable abbrev TE:=St->Hp->VK->Prop
noncomputable abbrev TT:=St->Hp->(Bool->Hp->Prop)->Prop
noncomputable abbrev TA:=St->Hp->(List V->Hp->Prop)->Prop
structure Ends where
 nx:St->Hp->Prop
 rt:VK
 bk:St->Hp->Prop:=λ_ _=>False
 ct:St->Hp->Prop:=λ_ _=>False
noncomputable abbrev TS:=Ends->St->Hp->Prop
def EP(X:Cx)(B:PN)(G:St)(Q:VK)(u:Value)(z:Shared):Prop:=∃v H',Inv X B G H' z/\RelV v u/\Q v H'
def TP(X:Cx)(B:PN)(G:St)(Q:Bool->Hp->Prop)(b:Bool)(z:Shared):Prop:=∃H',Inv X B G H' z/\Q b H'
def AP(X:Cx)(B:PN)(G:St)(Q:List V->Hp->Prop)(Y:LV)(z:Shared):Prop:=∃v H',Inv X B G H' z/\aM v Y/\Q v H'
def SP(X:Cx)(B:PN)(D:Ends)(f:Flow)(z:Shared):Prop:=
 match f with
 | .next=>∃h H',Inv X B h H' z/\D.nx h H'
 | .brk=>∃h H',Inv X B h H' z/\D.bk h H'
 | .cont=>∃h H',Inv X B h H' z/\D.ct h H'
 | .ret u=>∃v h H',Inv X B h H' z/\RelV v u/\D.rt v H'
def PE(X:Cx)(e:Expr)(t:TE):Prop:=
 ∀(B:PN)(s:Shared)(G:St)(H:Hp)(Q:VK),Inv X B G H s->t G H Q->wpAny (model X.prog X.w) X.A (eval e X.env) (EP X B G Q) X.xe s
def PT(X:Cx)(e:Expr)(t:TT):Prop:=
 ∀(B:PN)(s:Shared)(G:St)(H:Hp)(Q:Bool->Hp->Prop),Inv X B G H s->t G H Q->wpAny (model X.prog X.w) X.A (isTrue e X.env (eval e X.env)) (TP X B G Q) X.xe s
def PW(X:Cx)(e:Expr)(t:TT):Prop:=
 ∀(w:Sem Value)(B:PN)(s:Shared)(G:St)(H:Hp)(Q:Bool->Hp->Prop),Inv X B G H s->t G H Q->wpAny (model X.prog X.w) X.A (isTrue e X.env w) (TP X B G Q) X.xe s
variable{X:Cx}{e:Expr}
theorem PW.pt(h:PW X e t):PT X e t:=h _
def PA(X:Cx)(es:Ab)(t:TA):Prop:=
 ∀(O:Pos)(B:PN)(s:Shared)(G:St)(H:Hp)(Q:List V->Hp->Prop),Inv X B G H s->t G H Q->wpAny (model X.prog X.w) X.A (spliced (backTo O (starEach es X.env))) (AP X B G Q) X.xe s
def PS(X:Cx)(st:Stmt)(t:TS):Prop:=
 ∀(B:PN)(s:Shared)(G:St)(H:Hp)(D:Ends),Inv X B G H s->t D G H->wpAny (model X.prog X.w) X.A (exec st X.env) (SP X B D) X.xe s
def jW(X:Cx)(st:List Stmt)(t:TS):Prop:=
 ∀(B:PN)(s:Shared)(G:St)(H:Hp)(D:Ends),Inv X B G H s->t D G H->wpAny (model X.prog X.w) X.A (execs st X.env) (SP X B D) X.xe s
variable{M:Model}{A:Around}{E:VP}{s:Shared}
theorem cV(h:wpAny M A t Q E s)(e:∀a s,Q a s->N a s):wpAny M A t N E s:=wpAny_mono h e λ_ _ x=>x
section
variable{X:Cx}
noncomputable def GN(i:Nat):TE:=λG H Q=>∃v,G[i]? = some (some v)/\Q v H
noncomputable def tC(v:V):TE:=λ_ H Q=>Q v H
theorem zo(N:X.N[i]? = some x)(q:Db X.env.scope x)(hd:(x == ("__debug__":Str))=false:=by decide)(d:(x == ("__classdict__":Str))=false:=by decide):PE X (.Name x O) (GN i):=by
 intro B s G H Q I h;obtain⟨v,e,h⟩:=h;obtain⟨m,p,b⟩:=I.loc;obtain⟨u,r,l⟩:=b i x v N e q;have f:EP X B G Q u s:=⟨v,H,I,r,h⟩;rcases l with ⟨k,t⟩|⟨k,c,n,a⟩
 .exact wpAny_Name (wpAny_loadName_local I.ok.kind k p t f) hd
 .rcases k with k|k
  .exact wpAny_Name (wpAny_loadName_cell I.ok.kind k n a f) hd
  .exact wpAny_Name (wpAny_loadName_free I.ok.kind k n a f d) hd
theorem D8 {i N O}:PE X (.Constant (.int i) N O) (tC (.int i)):=λ_ _ _ H _ I h=>wpAny_Constant_int ⟨.int i,H,I.tok _,⟨_,rfl⟩,h⟩
theorem Hh {b N O}:PE X (.Constant (.bool b) N O) (tC (.bl b)):=λ_ _ _ H _ I h=>Constant_bool ⟨.bl b,H,I,rfl,h⟩
theorem D7 {N O}:PE X (.Constant .none N O) (tC .non):=λ_ _ _ H _ I h=>Constant_none ⟨.non,H,I,rfl,h⟩
theorem D4 {x N O}:PE X (.Constant (.str x) N O) (tC (.str x)):=λ_ _ _ H _ I h=>Calls.Constant_str ⟨.str x,H,I.tok _,⟨_,rfl⟩,h⟩
def Gl(X:Cx)(x:Str):Prop:=X.env.kindOf x=some .globalImplicit
theorem j3(I:Inv X B G H s)(g:Gl X x)(m:X.mg x=some u)(h:Q u s)
  (hd:(x == ("__debug__":Str))=false:=by decide):wpAny (model X.prog X.w) X.A (eval (.Name x O) X.env) Q E s:=
 Calls.Name_function_global I.ok.kind g (Calls.loadGlobal_global (by rw[I.ok.glob];exact I.mod.glob.keeps I.bk) m h) hd
theorem kB(I:Inv X B G H s)(g:Gl X x)(m:X.mg x=none)(v:bootBuiltins x=some u)(h:Q u s)
  (n:x≠"__name__":=by decide) (hd:(x == ("__debug__":Str))=false:=by decide):wpAny (model X.prog X.w) X.A (eval (.Name x O) X.env) Q E s:=by
 obtain⟨b,J,h2⟩:=I.mod.blt;exact Calls.Name_function_global I.ok.kind g (Calls.loadGlobal_builtin (by rw[I.ok.glob];exact I.mod.glob.keeps I.bk) m (by rw[I.ok.blt];exact J.keeps I.bk) ((h2 x n).trans v) h) hd
theorem wD(g:Gl X x)(m:X.mg x=some u)(r:RelV v u)(hd:(x == ("__debug__":Str))=false:=by decide):PE X (.Name x O) (tC v):=
 λ_ _ _ H _ I h=>j3 I g m ⟨v,H,I,r,h⟩ hd
theorem wF(g:Gl X x)(m:X.mg x=none)(a:bootBuiltins x=some u)(r:RelV v u)(n:x≠"__name__":=by decide)(hd:(x == ("__debug__":Str))=false:=by decide):PE X (.Name x O) (tC v):=
 λ_ _ _ H _ I h=>kB I g m a ⟨v,H,I,r,h⟩ n hd
def Mp(ta tb:TE)(k:Int->Int->Hp->Prop):St->Hp->Prop:=λG H=>ta G H λx U=>tb G U λy H2=>∃i j,x=.int i/\y=.int j/\k i j H2
variable{a b:Expr}{ta tb:TE}{O:Pos}
noncomputable def xy(p:Int->Int->Bool)(ta tb:TE):TE:=λG H Q=>Mp ta tb (λi j H2=>Q (.bl (p i j)) H2) G H
abbrev M7:TE->TE->TE:=xy λi j=>decide (i < j)
abbrev M8:TE->TE->TE:=xy λi j=>decide (i≤j)
abbrev M9:TE->TE->TE:=xy λi j=>decide (j < i)
abbrev M_:TE->TE->TE:=xy λi j=>decide (j≤i)
abbrev Mn:TE->TE->TE:=xy λi j=>decide (i=j)
abbrev Ml:TE->TE->TE:=xy λi j=>!decide (i=j)
variable{tA tB':TT}{bO:Ab}
noncomputable def Kx(t u:TT):TT:=λG H Q=>t G H λc U=>if c=true then u G U Q else Q false U
noncomputable def Mj(t u:TT):TT:=λG H Q=>t G H λc U=>if c=true then Q true U else u G U Q
noncomputable def Kr(t:TT):TT:=λG H Q=>t G H λc U=>Q (!c) U
theorem Bx(x:PT X a tA):PW X (.BoolOp .And [a] O) tA:=by
 intro w B s G H Q I h;refine isTrue_and (cV (x B s G H Q I h) λc n e=>?_);cases c with
 |true=>exact isTrue_and_nil e
 |false=>exact e
theorem DU(x:PT X a tA):PW X (.BoolOp .Or [a] O) tA:=by
 intro w B s G H Q I h;refine isTrue_or (cV (x B s G H Q I h) λc n e=>?_);cases c with
 |false=>exact isTrue_or_nil e
 |true=>exact e
theorem DV(e:PT X a tA)(n:PW X (.BoolOp .And (b::bO) O) tB'):PW X (.BoolOp .And (a::b::bO) O) (Kx tA tB'):=by
 intro w B s G H Q I h;refine isTrue_and (cV (e B s G H _ I h) λc k z=>?_);obtain⟨U,x,q⟩:=z;cases c with
 |true=>exact n w B k G U Q x q
 |false=>exact⟨U,x,q⟩
theorem Hb(e:PT X a tA)(n:PW X (.BoolOp .Or (b::bO) O) tB'):PW X (.BoolOp .Or (a::b::bO) O) (Mj tA tB'):=by
 intro w B s G H Q I h;refine isTrue_or (cV (e B s G H _ I h) λc k z=>?_);obtain⟨U,x,q⟩:=z;cases c with
 |true=>exact⟨U,x,q⟩
 |false=>exact n w B k G U Q x q
theorem DW(x:PT X a tA):PT X (.UnaryOp .Not a O) (Kr tA):=by intro B s G H Q I h;exact isTrue_not (x B s G H (λc U=>Q (!c) U) I h)
noncomputable def G0(ta tb:TE):TE:=λG H Q=>ta G H λx U=>∃c,x=.bl c/\if c=true then tb G U Q else Q (.bl false) U
noncomputable def Kq(ta tb:TE):TE:=λG H Q=>ta G H λx U=>∃c,x=.bl c/\if c=true then Q (.bl true) U else tb G U Q
noncomputable def GP(ta:TE):TE:=λG H Q=>ta G H λx U=>∃c,x=.bl c/\Q (.bl (!c)) U
theorem D5 {N} (h:PE X a t):PE X (.BoolOp N [a] O) t:=λB s G H Q I hw=>BoolOp_one (h B s G H Q I hw)
theorem D_(n:PE X a ta)(k:PE X (.BoolOp .And (b::bO) O) tb):PE X (.BoolOp .And (a::b::bO) O) (G0 ta tb):=by
 intro B s G H Q I h;refine BoolOp_and (cV (n B s G H _ I h) λv f z=>?_);obtain⟨x,U,e,r,q⟩:=z;obtain⟨c,rfl,q⟩:=q;cases r;refine jw ?_;cases c with
 |true=>exact k B f G U Q e q
 |false=>exact⟨.bl false,U,e,rfl,q⟩
theorem Hf(n:PE X a ta)(k:PE X (.BoolOp .Or (b::bO) O) tb):PE X (.BoolOp .Or (a::b::bO) O) (Kq ta tb):=by
 intro B s G H Q I h;refine BoolOp_or (cV (n B s G H _ I h) λv f z=>?_);obtain⟨x,U,e,r,q⟩:=z;obtain⟨c,rfl,q⟩:=q;cases r;refine jw ?_;cases c with
 |false=>exact k B f G U Q e q
 |true=>exact⟨.bl true,U,e,rfl,q⟩
theorem D6(n:PE X a ta):PE X (.UnaryOp .Not a O) (GP ta):=by intro B s G H Q I h;refine UnaryOp_ (cV (n B s G H _ I h) λv k z=>?_);obtain⟨x,U,e,r,q⟩:=z;obtain⟨c,rfl,q⟩:=q;cases r;exact not_of (jw ⟨.bl (!c),U,e,rfl,q⟩)
noncomputable def Mm(t:TT)(ta tb:TE):TE:=λG H Q=>t G H λc U=>if c=true then ta G U Q else tb G U Q
theorem zv(f:PT X c tA)(n:PE X a ta)(k:PE X b tb):PE X (.IfExp c a b O) (Mm tA ta tb):=by
 intro B s G H Q I h;refine wpAny_IfExp (cV (f B s G H _ I h) λd e z=>?_);obtain⟨U,x,q⟩:=z;cases d with
 |true=>exact n B e G U Q x q
 |false=>exact k B e G U Q x q
end
def ie(K:FG)(H:Hp)(a:Addr)(xs:List V):Prop:=
 Rd H a (.lst xs) \/
  ∃(o:Obj)(i:Array Value)(n:Nat),K.lookup a=some o/\o.cls=.type "list"/\o.dict=none/\o.data=.seq i n/\i.size≤sizeLine/\aM xs i.toList
def sS(K:FG)(H:Hp)(a:Addr)(xs:List V):Prop:=
 Rd H a (.tup xs) \/
  ∃(o:Obj)(i:Array Value)(n:Nat),K.lookup a=some o/\o.cls=.type "tuple"/\o.dict=none/\o.data=.seq i n/\i.size≤sizeLine/\aM xs i.toList
noncomputable def Lm:Value->Option V
 | .none=>some .non
 | .bool b=>some (.bl b)
 | .int i _=>some (.int i)
 | .str x _=>some (.str x)
 | .bytes b _=>some (.byt b)
 | .float b _=>some (.flt b)
 | .ref a=>some (.ref a)
 | .type n=>some (.ty n)
 |_=>none
theorem RelV.abs(r:RelV x u):Lm u=some x:=by
 cases x with
 |non=>cases r;rfl
 |bl _=>cases r;rfl
 |int _=>obtain⟨t,rfl⟩:=r;rfl
 |str _=>obtain⟨t,rfl⟩:=r;rfl
 |byt _=>obtain⟨t,rfl⟩:=r;rfl
 |flt _=>obtain⟨t,rfl⟩:=r;rfl
 |ref _=>cases r;rfl
 |ty _=>cases r;rfl
variable{y:V}
theorem RelV.inj(r:RelV x u)(q:RelV y u):x=y:=Option.some.inj (r.abs.symm.trans q.abs)
theorem aM.inj:∀{xs ys:List V}{Y:LV},aM xs Y->aM ys Y->xs=ys
 |_,_,_,.nil,.nil=>rfl
 |_,_,_,.cons r t,.cons h x=>by rw[r.inj h,aM.inj t x]
section
variable{X:Cx}{B:PN}{G:St}{H:Hp}{s:Shared}{a:Addr}{xs ys:List V}
theorem ie.of{K:FG}(h:H a=some (.lst xs)):ie K H a xs:=.inl (.inl h)
theorem Inv.list(I:Inv X B G H s)(h:ie X.K H a xs):∃i:LV,aM xs i/\PlainL s.heap a i.toArray/\xs.length≤sizeLine:=by
 rcases h with h|⟨o,i,n,k,c,hd,x,f,r⟩
 .obtain⟨z,i,n,r,e⟩:=h.ok I.hok;exact⟨i,r,⟨_,n,e,rfl,rfl,rfl⟩,z⟩
 .refine⟨i.toList,r,⟨o,n,I.kIn a o k,c,hd,by simpa using x⟩,?_⟩;have e:=r.length;simp only[nz]at e;lia
theorem Inv.tuple(I:Inv X B G H s)(h:sS X.K H a xs):∃i:LV,aM xs i/\IsTup s.heap a i.toArray/\xs.length≤sizeLine:=by
 rcases h with h|⟨o,i,n,k,c,_,x,f,r⟩
 .obtain⟨z,i,r,p⟩:=h.ok I.hok;exact⟨i,r,p.tup,z⟩
 .refine⟨i.toList,r,⟨o,I.kIn a o k,c,n,by simpa using x⟩,?_⟩;have e:=r.length;simp only[nz]at e;lia
theorem Inv.tupleN(I:Inv X B G H s)(h:sS X.K H a xs):∃i:LV,aM xs i/\mU s.heap a i.toArray:=by
 rcases h with q|⟨o,v,m,e,x,n,k,_,r⟩
 .exact⟨_,(q.ok I.hok).2.choose_spec⟩
 .exact⟨v.toList,r,o,I.kIn a o e,⟨x,m,by simpa using k⟩,n⟩
theorem Inv.list_inj(I:Inv X B G H s)(h:ie X.K H a xs)(h':ie X.K H a ys):xs=ys:=by
 obtain⟨t,r,⟨o,n,e,_,_,d⟩,_⟩:=I.list h;obtain⟨i,b,⟨o',c,k,_,_,x⟩,_⟩:=I.list h';rw[e]at k;cases k;rw[d]at x;injection x with f _;have:t=i:=by simpa using congrArg Array.toList f
 subst this;exact r.inj b
end
noncomputable abbrev Cx.wish(X:Cx)(E:VP):Cx:={ X with xe:=E }
abbrev Cx.nox(X:Cx):Cx:=X.wish λ_ _=>False
theorem Cx.Ok.wish(ok:X.Ok)(E:VP):(X.wish E).Ok:=
 ⟨ok.mod,ok.kind,ok.glob,ok.blt,ok.above,ok.inj,ok.has,ok.cab,ok.hd,ok.frames,ok.stk,ok.exf,ok.bs,ok.bsz,ok.noex,ok.exfs,ok.funs,ok.frf⟩
theorem Cx.Ok.unwish(ok:(X.wish E).Ok):X.Ok:=
 ⟨ok.mod,ok.kind,ok.glob,ok.blt,ok.above,ok.inj,ok.has,ok.cab,ok.hd,ok.frames,ok.stk,ok.exf,ok.bs,ok.bsz,ok.noex,ok.exfs,ok.funs,ok.frf⟩
section
variable{X:Cx}{B:PN}{G:St}{H:Hp}{s:Shared}{E:VP}
theorem Inv.wish(I:Inv X B G H s)(E:VP):Inv (X.wish E) B G H s:=⟨I.ok.wish E,I.os,I.bare,I.base,I.loc,I.cell,I.free,I.freeC,I.pin,I.hok,I.len⟩
theorem Inv.unwish(I:Inv (X.wish E) B G H s):Inv X B G H s:=⟨I.ok.unwish,I.os,I.bare,I.base,I.loc,I.cell,I.free,I.freeC,I.pin,I.hok,I.len⟩
theorem SP.unwish(h:SP (X.wish E) B D f z):SP X B D f z:=by
 cases f with
 |next=>obtain⟨x,H',I,q⟩:=h;exact⟨x,H',I.unwish,q⟩
 |brk=>obtain⟨x,H',I,q⟩:=h;exact⟨x,H',I.unwish,q⟩
 |cont=>obtain⟨x,H',I,q⟩:=h;exact⟨x,H',I.unwish,q⟩
 |ret u=>obtain⟨v,x,H',I,r,q⟩:=h;exact⟨v,x,H',I.unwish,r,q⟩
theorem jW.nox{st:List Stmt}{t:TS}(h:jW X.nox st t):jW X st t:=λB s G H D I hw=>
 wpAny_mono (h B s G H D (I.wish _) hw) (λ_ _ q=>q.unwish) λ_ _ z=>False.elim z
end
section
variable{X:Cx}{st:Stmt}{bO:List Stmt}{t u:TS}{e:Expr}{te:TE}{O:Pos}
noncomputable def GR:TS:=λD G H=>D.nx G H
noncomputable def Kn(t u:TS):TS:=λD G H=>t { D with nx:=u D } G H
theorem By:jW X [] GR:=λ_ _ G H _ I h=>wpAny_execs_nil ⟨G,H,I,h⟩
theorem kU(J:PS X st t)(h2:jW X bO u):jW X (st::bO) (Kn t u):=by
 intro B s G H D I h;refine wpAny_execs_cons (cV (J B s G H { D with nx:=u D } I h) λf e q=>?_);cases f with
 |next=>obtain⟨x,H',a,q⟩:=q;exact h2 B e x H' D a q
 |ret v=>exact q
 |brk=>exact q
 |cont=>exact q
theorem rk(J:PS X st t):jW X [st] t:=by
 intro B s G H D I h;refine wpAny_execs_cons (cV (J B s G H D I h) λf x q=>?_);cases f with
 |next=>exact wpAny_execs_nil q
 |ret v=>exact q
 |brk=>exact q
 |cont=>exact q
theorem Inv.quiet(I:Inv X B G H s):interactive X.env=false:=by simp[interactive,I.ok.kind]
noncomputable def GV(te:TE):TS:=λD G H=>te G H λ_ U=>D.nx G U
theorem Bz(n:PE X e te)(k:swapsWith e none O.line X.env=pure false:=by rfl):PS X (.Expr e O) (GV te):=by intro B s G H D I h;exact wpAny_Expr_any (cV (n B s G H _ I h) λv f z=>by obtain⟨x,U,a,r,q⟩:=z;exact⟨G,U,a,q⟩) I.quiet k
noncomputable def Ko(te:TE):TS:=λD G H=>te G H D.rt
theorem zg(n:PE X e te):PS X (.Return (some e) O) (Ko te):=by intro B s G H D I h;exact wpAny_Return_some (cV (n B s G H _ I h) λv k z=>by obtain⟨x,U,a,r,q⟩:=z;exact⟨x,G,U,a,r,q⟩)
noncomputable def Kt(c:TT)(t u:TS):TS:=λD G H=>c G H λb U=>if b=true then t D G U else u D G U
theorem Hc{c:Expr}{a b:List Stmt}{tc:TT}(f:PT X c tc)(n:jW X a t)(k:jW X b u):PS X (.If c a b O) (Kt tc t u):=by
 intro B s G H D I h;refine wpAny_If (cV (f B s G H _ I h) λd e z=>?_);obtain⟨U,x,q⟩:=z;cases d with
 |true=>exact n B e G U D x q
 |false=>exact k B e G U D x q
noncomputable def yU:TS:=λ_ _ _=>False
theorem zh:PS X st yU:=λ_ _ _ _ _ _ h=>h.elim
theorem lJ:jW X N yU:=λ_ _ _ _ _ _ h=>h.elim
end
noncomputable abbrev TG:=V->St->Hp->(St->Hp->Prop)->Prop
noncomputable abbrev Fs:=List V->St->Hp->(St->Hp->Prop)->Prop
def PG(X:Cx)(a:Expr)(t:TG):Prop:=
 ∀(B:PN)(s:Shared)(G:St)(H:Hp)(v:V)(u:Value)(Q:St->Hp->Prop),Inv X B G H s->RelV v u->t v G H Q ->
  wpAny (model X.prog X.w) X.A (assign a X.env u) (λ_ z=>∃h H',Inv X B h H' z/\Q h H') X.xe s
def IY(X:Cx)(x:Ab)(t:Fs):Prop:=
 ∀(B:PN)(s:Shared)(G:St)(H:Hp)(v:List V)(Y:LV)(Q:St->Hp->Prop),Inv X B G H s->aM v Y->t v G H Q ->
  wpAny (model X.prog X.w) X.A (assignInOrder ((assignEach x X.env).map (·.2)) Y) (λ_ z=>∃h H',Inv X B h H' z/\Q h H') X.xe s
noncomputable abbrev Fq:=V->V->V->Hp->(Hp->Prop)->Prop
def IU(X:Cx)(t:Fq):Prop:=
 ∀(B:PN)(s:Shared)(G:St)(H:Hp)(o i v:V)(x h u:Value)(Q:Hp->Prop),Inv X B G H s->RelV o x->RelV i h->RelV v u->t o i v H Q ->
  wpAny (model X.prog X.w) X.A (setItem x h u) (λ_ z=>∃H',Inv X B G H' z/\Q H') X.xe s
noncomputable abbrev Na:=V->V->Hp->VK->Prop
section
variable{X:Cx}{O:Pos}
noncomputable def CZ(i:Nat):TG:=λv G H Q=>Q (G.set i (some v)) H
theorem BH(N:X.N.Nodup)(q:X.N[i]? = some x)(e:Loc X.env.scope x)(f:X.fn x=true\/X.env.scope.names.lookup x=some .local:=by first|exact .inl rfl|exact .inr rfl|assumption):PG X (.Name x O) (CZ i):=by intro B s G H v u Q I r h;exact wpAny_assign_Name (tq I N q e r (λz a=>⟨_,H,a,h⟩) f)
noncomputable def K':Fs:=λv G H Q=>v=[]/\Q G H
noncomputable def Ik(t:TG)(u:Fs):Fs:=λs G H Q=>∃v r,s=v::r/\t v G H λh H'=>u r h H' Q
theorem BG:IY X [] K':=by intro B s G H v Y Q I r h;obtain⟨e,h⟩:=h;subst e;cases r;exact assignInOrder_nil ⟨G,H,I,h⟩
theorem zn{e:Expr}{es:Ab}{t:TG}{u:Fs}(J:PG X e t)(h2:IY X es u)
  (k:(assignEach (e::es) X.env).map (·.2)=assign e X.env::(assignEach es X.env).map (·.2):=by rfl):IY X (e::es) (Ik t u):=by
 intro B s G H m Y Q I r h;obtain⟨v,c,n,h⟩:=h;subst n;cases r with
 |cons r f=>rw[k];refine assignInOrder_cons (cV (J B s G H _ _ _ I r h) λ_ b z=>?_);obtain⟨x,U,a,q⟩:=z;exact h2 B b x U _ _ Q a f q
noncomputable def K9(K:FG)(n:Nat)(t:Fs):TG:=λv G H Q=>∃a xs,v=.ref a/\sS K H a xs/\xs.length=n/\t xs G H Q
theorem D2(p:X.calm=true)(h:IY X es t)
  (q:(assignEach es X.env).length=n:=by rfl) (x:(assignEach es X.env).findIdx? (·.1)=none:=by rfl):PG X (.Tuple es k O) (K9 X.K n t):=by
 intro B s G H v u Q I r hw;obtain⟨a,xs,m,d,l,hw⟩:=hw;subst m;cases r;obtain⟨i,f,w,z⟩:=I.tuple d;refine assign_Tuple_tuple (I.ok.hd p) w (by simp[q,<- l,f.length]) x λh' g=>?_
 have c:Inv X B G H { s with heap:=h' }:=I.kept (t':=s.toks) λb o e=>g b o (bM (Heap.lt_size e)) e;exact h B _ G H xs _ Q c (by simpa using f) hw
noncomputable def K_(to x:TE)(t:Fq):TG:=λv G H Q=>to G H λo U=>x G U λi H2=>t o i v H2 λh=>Q G h
theorem D3{o i:Expr}{to a:TE}{t:Fq}(c:PE X o to)(q:PE X i a)(m:IU X t)
  (b:∀v,assign (.Subscript o i O) X.env v=(do
   let N <- holding [v] (eval o X.env)
   let iv <- holding [v,N] (eval i X.env)
   standAt O
   holding [v,N,iv] (setItem N iv v)
   release [v,N,iv] []):=by intro _;rfl):PG X (.Subscript o i O) (K_ to a t):=by
 intro B s G H v u Q I r h;rw[b];refine wpAny_bind (wpAny_holding (cV (c B s G H _ I h) λN l z=>?_));obtain⟨x,U,n,g,p⟩:=z;refine wpAny_bind (wpAny_holding (cV (q B l G U _ n p) λiv S z=>?_));obtain⟨y,H2,k,j,d⟩:=z;refine wpAny_bind (wpAny_standAt (wpAny_bind (wpAny_holding (cV (m B S G H2 x y v N iv u _ k g j r d) λ_ F z=>?_))));obtain⟨e,f,w⟩:=z;exact wpAny_release ⟨G,e,f,w⟩
noncomputable def GZ(te:TE)(g:TG):TS:=λD G H=>te G H λx U=>g x G U D.nx
theorem zi{tg e:Expr}{te:TE}{g:TG}(n:PE X e te)(k:PG X tg g)(f:swapsWithSole [tg] e O.line X.env=pure false:=by rfl)(hw:swappedStores [tg] e X.env=pure none:=by rfl)
  (J:(assignEach [tg] X.env).map (·.2)=[assign tg X.env]:=by rfl):PS X (.Assign [tg] e O) (GZ te g):=by
 intro B s G H D I h;refine wpAny_Assign_stores (cV (n B s G H _ I h) λv c z=>?_) f hw;obtain⟨x,U,a,r,b⟩:=z;rw[J];exact cV (k B c G U x v _ a r b) λ_ m q=>q
theorem zf(N:X.N.Nodup)(q:X.N[i]? = some x)(c:Loc X.env.scope x)(k:PE X e te)(b:swapsWith e (some (.Name x pos')) O.line X.env=pure false:=by rfl)(f:X.fn x=true\/X.env.scope.names.lookup x=some .local:=by first|exact .inl rfl|exact .inr rfl|assumption) :
  PS X (.Assign [.Name x pos'] e O) (GZ te (CZ i)):=by
 intro B s G H D I h;refine wpAny_Assign_Name (cV (k B s G H _ I h) λv t z=>?_) b;obtain⟨y,U,a,r,m⟩:=z;exact tq a N q c r (λp n=>⟨_,U,n,m⟩) f
end
structure It where
 go:Nat->Hp->Prop
 yld:Nat->Hp->V->Hp->Prop
 stop:Nat->Hp->Prop
def sU(X:Cx)(B:PN)(H:Hp)(b:Addr):Prop:=
 H b=none/\b≠X.env.locals/\b ∉ X.fs/\(b ∈ X.ex\/X.s₀.heap.objs.size≤b)/\(∀x c,X.env.cells.lookup x=some c->c≠b)/\∀p ∈ X.pn++B,p.1≠b
variable{B:PN}{G:St}
theorem Inv.fpOk(I:Inv X B G H s)(h:s.heap.objs.size≤b)(n:H' b=none):sU X B H' b:=by
 refine⟨n,cO (cg I.lt h),I.nofs h,.inr (aU I.sz h),λx c e z=>?_,λp a z=>?_⟩
 .obtain⟨v,q⟩:=I.cell x c e;exact absurd (cg q.lt (by rw[z];exact h)) (jt _)
 .exact absurd (cg (Heap.lt_size (I.pin p a).1) (by rw[z];exact h)) (jt _)
structure Turn(P:Program)(w:World)(K:FG)(tg:Expr)(J:It)(fp:List Addr)(it:Addr)(tn:Nat->Heap->Prop):Prop where
 mem:it ∈ fp
 obj:∀i h,tn i h->∀b ∈ fp,∃o,h.get? b=some o/\∀v,o.data≠.cell v
 keep:∀i h h',tn i h->(∀b ∈ fp,∀o,h.get? b=some o->h'.get? b=some o)->tn i h'
 item:∀(X:Cx),X.prog=P->X.w=w->X.K=K->X.calm=true->∀(i:Nat)(pins:PN)(s:Shared)(σ:St)(H:Hp)(E:VP),Inv X pins σ H s->(∀b ∈ fp,sU X pins H b)->tn i s.heap->J.go i H ->
  wpAny (model P w) X.A (pyNext (.ref it)) (fun r s1=>∃u,r=some u /\
   wpAny (model P w) X.A (letOwnedTupleGo tg (.ref it) u) (λ_ s2=>∃x H',Inv X pins σ H' s2/\RelV x u/\J.yld i H x H'/\tn (i+1) s2.heap/\∀b ∈ fp,H' b=none) E s1) E s
 done:∀(X:Cx),X.prog=P->X.w=w->X.K=K->X.calm=true->∀(i:Nat)(pins:PN)(s:Shared)(σ:St)(H:Hp)(E:VP),Inv X pins σ H s->(∀b ∈ fp,sU X pins H b)->tn i s.heap->J.stop i H ->
  wpAny (model P w) X.A (pyNext (.ref it)) (λr s1=>r=none/\Inv X pins σ H s1) E s
 self:∀(A:Around)(i:Nat)(s:Shared)(Q:VP)(E:VP),tn i s.heap->Q (.ref it) s->wpAny (model P w) A (pyIter (.ref it)) Q E s
noncomputable abbrev TI:=St->Hp->(It->Hp->Prop)->Prop
def JK(X:Cx)(B:PN)(G:St)(tg:Expr)(R:It->Hp->Prop)(i:Value)(s:Shared):Prop:=
 ∃(t:Addr)(f:List Addr)(n:Nat->Heap->Prop)(J:It)(H':Hp),i=.ref t/\Inv X B G H' s/\Turn X.prog X.w X.K tg J f t n/\n 0 s.heap/\(∀b ∈ f,sU X B H' b)/\R J H'
def PI(X:Cx)(tg iter:Expr)(w:TI):Prop:=
 ∀(B:PN)(s:Shared)(G:St)(H:Hp)(R:It->Hp->Prop),Inv X B G H s->w G H R ->
  wpAny (model X.prog X.w) X.A (eval iter X.env) (λv h=>wpAny (model X.prog X.w) X.A (pyIter v) (JK X B G tg R) X.xe h) X.xe s
variable{tg:Expr}
theorem CY(e:s.heap.get? N=some o)(c:o.cls=.type n)(hd:o.data=.fields vs)
    (a:["enumerate","zip","dict_itemiterator","dict_reverseitemiterator","odict_iterator","itertools.zip_longest","itertools.pairwise"].contains n=false) (x:Q () s):wpAny M A (letOwnedTupleGo tg (.ref N) u) Q E s:=by
  unfold letOwnedTupleGo;cases tg<;>first
    |exact wpAny_pure x
    | (cases u <;> first
        |exact wpAny_pure x
        | (refine wpAny_bind (wpAny_load e ?_)
           rw[c,hd];show wpAny M A (if (["enumerate","zip","dict_itemiterator","dict_reverseitemiterator","odict_iterator","itertools.zip_longest","itertools.pairwise"].contains n && vs[0]? == some (rawInt _))=true then _ else _) Q E s;rw[if_neg (by intro h;rw[a,Bool.false_and]at h;cases h)];exact wpAny_pure x))
noncomputable def JN(K:FG)(a:Addr):It:=
 ⟨λi H=>∃xs x,ie K H a xs/\xs[i]? = some x,λi H x H'=>H'=H/\∀xs,ie K H a xs->xs[i]? = some x,λi H=>∃xs,ie K H a xs/\xs.length≤i⟩
noncomputable def JM(I:Int)(n:Nat):It:=⟨λi _=>i < n,λi H x H'=>H'=H/\x=.int (I+i),λi _=>n≤i⟩
variable{w:World}{K:FG}
theorem xt(a t:Addr):Turn P w K tg (JN K a) [t] t (λi h=>h.IsListIter t a i) where
 mem:=by simp
 obj:=λi h st b n=>by
  have e:b=t:=by simpa using n
  subst e;obtain⟨o,e,c,d⟩:=st;exact⟨o,e,λv z=>by rw[d]at z;cases z⟩
 keep:=λi h h' st k=>st.at λo e=>k t (by simp) o e
 item:=by
  intro X F hw S L i B s G H E I m st A;subst F hw S;obtain⟨xs,x,q,C⟩:=A;obtain⟨D,J,p,T⟩:=I.list q;obtain⟨u,Q,U⟩:=J.get C;obtain⟨r,g,O,j,l,y⟩:=m t (by simp);refine wpAny_pyNext_list_item st p.isList (x:=u) (by simpa using Q) λh' f V=>?_
  have M:Inv X B G H { s with heap:=h' }:=I.turned (t':=s.toks) (λb o n e=>(V.2 b n).trans e) r g j l y;obtain⟨o,e,c,d⟩:=id f;exact⟨u,rfl,CY (s:={ s with heap:=h' }) e c d (by decide) ⟨x,H,M,U,⟨rfl,λys R=>by rw[I.list_inj R q];exact C⟩,f,λb n=>(m b n).1⟩⟩
 done:=by intro X F hw S L i B s G H E I m st A;subst F hw S;obtain⟨xs,q,C⟩:=A;obtain⟨D,J,p,T⟩:=I.list q;obtain⟨r,g,O,j,l,y⟩:=m t (by simp);have W:=J.length;exact wpAny_pyNext_list_end (I.ok.hd L) st p.isList (by simp;lia) λh' N=>⟨rfl,I.turned (t':=s.toks) (λb o n e=>N b o n e) r g j l y⟩
 self:=λ_ _ _ _ _ st h=>wpAny_pyIter_listiter st h
theorem u5(a:Addr)(I:Int)(n:Nat):Turn P w K tg (JM I n) [a] a (λi h=>IsRangeIter h a (I+(i:Nat) * 1) ((n:Int)-(i:Nat)) 1) where
 mem:=by simp
 obj:=λi h st b f=>by
  have e:b=a:=by simpa using f
  subst e;exact⟨_,st,λv z=>by have J:Data.fields _=Data.cell v:=z;cases J⟩
 keep:=λi h h' st k=>k a (by simp) _ st
 item:=by
  intro X j hw g l i B s G H E x m st y;subst j hw g;obtain⟨r,p,A,q,d,u⟩:=m a (by simp);have W:=Walks.range (prog:=X.prog) (w:=X.w) (x.ok.hd l) a I 1 n;refine W.item i s _ _ y st λv h' tk C c D=>?_
  obtain⟨t,rfl⟩:=C;have S:Inv X B G H { s with heap:=h',toks:=tk }:=x.turned (λb o f e=>D b o (by simpa using f) e) r p q d u;refine⟨_,rfl,CY (s:={ s with heap:=h',toks:=tk }) (n:="range_iterator") c rfl rfl (by decide) ⟨.int (I+i),H,S,⟨t,?_⟩,⟨rfl,rfl⟩,c,λb f=>(m b f).1⟩⟩;rw[Int.mul_one]
 done:=by intro X j hw g l i B s G H E x m st y;subst j hw g;obtain⟨r,p,A,q,d,u⟩:=m a (by simp);exact wpAny_pyNext_range_end (x.ok.hd l) st (by have:n≤i:=y;lia) λh' F=>⟨rfl,x.turned (t':=s.toks) (λb o f e=>F b o f e) r p q d u⟩
 self:=λ_ _ _ _ _ st h=>wpAny_pyIter_rangeiter st h
section
variable{X:Cx}{tg:Expr}
theorem y'{I q:Int}{t u v:Tok}{tk:Nat}(h:Inv X B G H s)(J:-(2 ^ 62)≤I)(h2:I < 2 ^ 62)(f:-(2 ^ 62)≤q)(c:q < 2 ^ 62)
  (x:R (JM I (q-I).toNat) H):wpAny (model X.prog X.w) X.A (pyIter (.ref s.heap.objs.size)) (JK X B G tg R) E { s with heap:=s.heap.push { cls:=.type "range",data:=.fields #[.int I t,.int q u,.int 1 v] },toks:=tk }:=by
 refine wpAny_pyIter_range (IsRange.new ..) (small_one J h2 f c) ?_;have a:Inv X B G H { s with heap:=s.heap.push { cls:=.type "range",data:=.fields #[.int I t,.int q u,.int 1 v] },toks:=tk }:=h.kept fun b o e=>Heap.get?_push_of_some _ e;refine⟨(s.heap.push { cls:=.type "range",data:=.fields #[.int I t,.int q u,.int 1 v] }).objs.size,[(s.heap.push { cls:=.type "range",data:=.fields #[.int I t,.int q u,.int 1 v] }).objs.size],_,_,H,rfl,
  a.kept (t':=tk) λb o e=>Heap.get?_push_of_some _ e,u5 _ I (q-I).toNat,?_,λb m=>?_,x⟩
 .have n:I+((0:Nat):Int) * 1=I:=by simp
  have k:(((q-I).toNat:Nat):Int)-((0:Nat):Int)=Builtin.Range.rangeSize I q 1:=by rw[rangeSize_one];split<;>lia
  show IsRangeIter _ _ (I+((0:Nat):Int) * 1) ((((q-I).toNat:Nat):Int)-((0:Nat):Int)) 1;rw[n,k];exact Heap.get?_push_size _ rfl
 .have e:b=(s.heap.push { cls:=.type "range",data:=.fields #[.int I t,.int q u,.int 1 v] }).objs.size:=by simpa using m
  subst e;exact a.fpOk (Nat.le_refl _) (a.hok.fresh (Nat.le_refl _))
noncomputable def HY(ta:TA):TI:=λG H R=>ta G H λv U=>∃j:Int,v=[.int j]/\-(2 ^ 62)≤j/\j < 2 ^ 62/\R (JM 0 j.toNat) U
theorem xH{a:Expr}{ta:TA}{p O:Pos}(g:Gl X "range")(m:X.mg "range"=none)(k:PA X [a] ta)(f:starEach [a] X.env=[(false,eval a X.env)]:=by rfl):PI X tg (.Call (.Name "range" p) [a] [] O) (HY ta):=by
 intro B s G H R I h;refine Call_ (kB I g m boot_range (nC (cV (k O B s G H _ I h) λY d z=>?_) f rfl));obtain⟨w,U,n,c,x⟩:=z;obtain⟨j,e,x,b,q⟩:=x;subst e;cases c with
 |cons r v=>cases v;obtain⟨t,rfl⟩:=r;exact call_range_1 (y' n (by lia) (by lia) x b (by simpa using q))
noncomputable def Ku(w:TI)(g:TG)(tb:TS):TS:=λD G H=>w G H λJ U=>∃W:Nat->Nat->St->Hp->Prop,(∃m,W 0 m G U)/\∀i m G H,W i m G H ->
 (J.stop i H/\D.nx G H)\/(J.go i H/\∃N:St->Hp->Prop,(∀h H',N h H'->∃e,e < m/\W (i+1) e h H')/\∀x H',J.yld i H x H'->g x G H' λa H2=>tb { D with nx:=N,ct:=N,bk:=D.nx } a H2)
noncomputable def lK(f:List Addr)(h:Heap):PN:=f.filterMap λb=>(h.get? b).map λo=>(b,o)
theorem iZ(x:b ∈ N)(e:h.get? b=some o):(b,o) ∈ lK N h:=lx.mpr ⟨b,x,by rw[e];rfl⟩
theorem xJ(s:p ∈ lK N h):p.1 ∈ N/\h.get? p.1=some p.2:=by
 obtain⟨b,a,e⟩:=lx.mp s;cases q:h.get? b with
 |none=>rw[q]at e;cases e
 |some o=>rw[q]at e;have x:(b,o)=p:=Option.some.inj e;subst x;exact⟨a,q⟩
theorem Inv.pinned(I:Inv X B G H s)(k:∀b ∈ N,sU X B H b)(c:∀b ∈ N,∃o,s.heap.get? b=some o/\∀v,o.data≠.cell v):Inv X (B++lK N s.heap) G H s:=
 I.pins_of λp m=>(dA.mp m).elim (λz=>I.pin p (gi _ z)) λz=>by obtain⟨x,e⟩:=xJ z;obtain⟨f,a,n,_⟩:=k p.1 x;obtain⟨o,h,d⟩:=c p.1 x;rw[e]at h;cases h;exact⟨e,f,a,n,d⟩
theorem Inv.unpinned(I:Inv X (B++N) G H s):Inv X B G H s:=I.pins_of λp h=>I.pin p (gi _ (ky _ h))
theorem DX{iter:Expr}{y:List Stmt}{wi:TI}{g:TG}{tb:TS}{O:Pos}(A:PassesOwn (model X.prog X.w) X.A X.env X.xe)(hc:X.calm=true)(q:PI X tg iter wi)(hg:PG X tg g)(p:jW X y tb)
  (hs:∀x,foldedSetIterable iter X.env x=pure x:=by intro _;rfl):PS X (.For tg iter y [] O) (Ku wi g tb):=by
 intro B s G H D I h;refine wpAny_For (cV (q B s G H _ I h) λv s1 J=>cV J λitv s2 h2=>?_) hs;obtain⟨it,K,tn,a,H2,e,I2,T,Y,f2,W,⟨m0,w0⟩,L⟩:=h2;subst e;have w:∀{H':Hp},(∀b ∈ K,H' b=none)->∀b ∈ K,sU X B H' b:=λhn b p=>⟨hn b p,(f2 b p).2⟩
 refine codeAny_forLoop_any (λn z=>∃i j H',Inv X B j H' z/\tn i z.heap/\(∀b ∈ K,H' b=none)/\W i n j H') ?_ m0 ⟨0,G,H2,I2,Y,λb p=>(f2 b p).1,w0⟩;rintro n s3 ⟨i,l,M,I3,tt,P,w3⟩;rcases L i n l M w3 with ⟨E,qn⟩|⟨go,N,hN,step⟩
 .refine nr A (cV (T.done X rfl rfl rfl hc i B s3 l M X.xe I3 (w P) tt E) λr s4 F=>?_);obtain⟨U,I4⟩:=F;subst U;exact wpAny_execs_nil ⟨l,M,I4,qn⟩
 .refine nr A (cV (T.item X rfl rfl rfl hc i B s3 l M X.xe I3 (w P) tt go) λr s4 F=>?_);obtain⟨u,U,h4⟩:=F;subst U;refine nr A (cV h4 λ_ s5 F=>?_);obtain⟨x,H5,I5,r5,y5,G1,R⟩:=F;have Q:=I5.pinned (w R) (T.obj _ _ G1);refine nr A (cV (hg _ s5 l H5 x u _ Q r5 (step x H5 y5)) λ_ s6 F=>?_);obtain⟨Z,H6,I6,q6⟩:=F;refine nr A (cV (p _ s6 Z H6 _ I6 q6) λf V S=>?_);have again:∀{k:St}{c:Hp},Inv X (B++lK K s5.heap) k c V->N k c->∃m,m < n/\∃i j H',Inv X B j H' V/\tn i V.heap/\(∀b ∈ K,H' b=none)/\W i m j H':=λ{k c} t C=>by
   obtain⟨m',hm,w7⟩:=hN k c C;refine⟨m',hm,i+1,k,c,t.unpinned,T.keep _ _ _ G1 λb p o e=>(t.pin (b,o) (gi _ (gi _ (iZ p e)))).1,λb p=>?_,w7⟩;obtain⟨o,e,d⟩:=T.obj _ _ G1 b p;exact(t.pin (b,o) (gi _ (gi _ (iZ p e)))).2.1
  cases f with
  |next=>obtain⟨k,c,t,C⟩:=S;exact again t C
  |cont=>obtain⟨k,c,t,C⟩:=S;exact again t C
  |brk=>obtain⟨k,c,t,S⟩:=S;exact⟨k,c,t.unpinned,S⟩
  |ret v=>obtain⟨x7,k,c,t,r7,S⟩:=S;exact⟨x7,k,c,t.unpinned,r7,S⟩
end
noncomputable abbrev R2:=V->V->Hp->VK->Prop
def iI(X:Cx)(f:Value->Value->Sem Value)(r:R2):Prop:=
 ∀(B:PN)(s:Shared)(G:St)(H:Hp)(x y:V)(v u:Value)(Q:VK),Inv X B G H s->RelV x v->RelV y u->r x y H Q ->
  wpAny (model X.prog X.w) X.A (f v u) (EP X B G Q) X.xe s
def Ln(X:Cx)(f:Value->Sem Value)(r:V->Hp->VK->Prop):Prop:=
 ∀(B:PN)(s:Shared)(G:St)(H:Hp)(x:V)(v:Value)(Q:VK),Inv X B G H s->RelV x v->r x H Q ->
  wpAny (model X.prog X.w) X.A (f v) (EP X B G Q) X.xe s
def dU(X:Cx)(f:Value)(r:List V->Hp->VK->Prop):Prop:=
 ∀(B:PN)(s:Shared)(G:St)(H:Hp)(xs:List V)(Y:LV)(Q:VK),Inv X B G H s->aM xs Y->r xs H Q ->
  wpAny (model X.prog X.w) X.A (call f Y) (EP X B G Q) X.xe s
def Lo(X:Cx)(r:V->Hp->(Bool->Hp->Prop)->Prop):Prop:=
 ∀(B:PN)(s:Shared)(G:St)(H:Hp)(x:V)(v:Value)(Q:Bool->Hp->Prop),Inv X B G H s->RelV x v->r x H Q ->
  wpAny (model X.prog X.w) X.A (truthy v) (TP X B G Q) X.xe s
noncomputable def DJ(r:R2)(ta tb:TE):TE:=λG H Q=>ta G H λx U=>tb G U λy H2=>r x y H2 Q
noncomputable def Mh(r:V->Hp->VK->Prop)(ta:TE):TE:=λG H Q=>ta G H λx U=>r x U Q
noncomputable def rI(C:Int->Int->Prop)(g:Int->Int->V):R2:=λx y H Q=>∃i j,x=.int i/\y=.int j/\C i j/\Q (g i j) H
noncomputable def Bu(g:Int->Int->V):R2:=λx y H Q=>∃i j,x=.int i/\y=.int j/\Q (g i j) H
def rU(g:Int->V):V->Hp->VK->Prop:=λx H Q=>∃i,x=.int i/\Q (g i) H
section
variable{X:Cx}{a b c:Expr}{ta tb tc:TE}{O:Pos}
theorem Fj(r:PE X a ta)(t:PE X b tb){B:PN}{s:Shared}{G:St}{H:Hp}{R:V->V->Hp->Prop}(I:Inv X B G H s)
  (h:ta G H λx U=>tb G U λy H2=>R x y H2) {Q:VP}{f:Value->Value->Sem Value}
  (p:∀v u k x y H2,Inv X B G H2 k->RelV x v->RelV y u->R x y H2->wpAny (model X.prog X.w) X.A (f v u) Q X.xe k) :
  wpAny (model X.prog X.w) X.A (eval a X.env) (λv e=>wpAny (model X.prog X.w) X.A (eval b X.env) (λu n=>wpAny (model X.prog X.w) X.A (f v u) Q X.xe n) X.xe e) X.xe s:=by
 refine cV (r B s G H _ I h) λv i z=>?_;obtain⟨x,U,c,w,q⟩:=z;refine cV (t B i G U _ c q) λu k z=>?_;obtain⟨y,H2,m,g,d⟩:=z;exact p v u k x y H2 m w g d
theorem Hg{o:Operator}{r:R2}(f:iI X (binaryOp o) r)(n:PE X a ta)(k:PE X b tb):PE X (.BinOp a o b O) (DJ r ta tb):=by intro B s G H Q I h;exact wpAny_BinOp (Fj n k I h λv u t x y H2 e c m q=>f B t G H2 x y v u Q e c m q)
theorem He(o:Ln X (unaryOp N) r)(n:PE X a ta):PE X (.UnaryOp N a O) (Mh r ta):=by intro B s G H Q I h;exact UnaryOp_ (cV (n B s G H _ I h) λv f z=>by obtain⟨x,U,e,k,q⟩:=z;exact o B f G U x v Q e k q)
theorem Jj{f:Value->Value->Sem Value}{C:Int->Int->Prop}{g:Int->Int->Int}
  (rule:∀(i j:Int)(t u:Tok)(s:Shared)(Q:VP)(E:VP),C i j->Q (.int (g i j) s.toks) { s with toks:=s.toks+1 }->wpAny (model X.prog X.w) X.A (f (.int i t) (.int j u)) Q E s) :
  iI X f (rI C λi j=>.int (g i j)):=by
 intro B s G H x y v u Q I r a h;obtain⟨i,j,rfl,rfl,c,q⟩:=h;obtain⟨t,rfl⟩:=r;obtain⟨e,rfl⟩:=a;exact rule i j t e s _ _ c ⟨.int (g i j),H,I.tok _,⟨_,rfl⟩,q⟩
theorem Hu{f:Value->Value->Sem Value}{g:Int->Int->Int}
  (rule:∀(i j:Int)(t u:Tok)(s:Shared)(Q:VP)(E:VP),Q (.int (g i j) s.toks) { s with toks:=s.toks+1 }->wpAny (model X.prog X.w) X.A (f (.int i t) (.int j u)) Q E s) :
  iI X f (Bu λi j=>.int (g i j)):=by
 intro B s G H x y v u Q I r a h;obtain⟨i,j,rfl,rfl,q⟩:=h;obtain⟨t,rfl⟩:=r;obtain⟨e,rfl⟩:=a;exact rule i j t e s _ _ ⟨.int (g i j),H,I.tok _,⟨_,rfl⟩,q⟩
theorem BO{f:Value->Value->Sem Value}{g:Int->Int->Bool}
  (rule:∀(i j:Int)(t u:Tok)(s:Shared)(Q:VP)(E:VP),Q (.bool (g i j)) s->wpAny (model X.prog X.w) X.A (f (.int i t) (.int j u)) Q E s) :
  iI X f (Bu λi j=>.bl (g i j)):=by
 intro B s G H x y v u Q I r a h;obtain⟨i,j,rfl,rfl,q⟩:=h;obtain⟨t,rfl⟩:=r;obtain⟨e,rfl⟩:=a;exact rule i j t e s _ _ ⟨.bl (g i j),H,I,rfl,q⟩
def Lw(i j:Int):Prop:=0≤j/\j≤1000000/\i.natAbs < 2 ^ 64
def M5(i j:Int):Prop:=(-(2 ^ 64) < i/\i < 2 ^ 64)\/(-(2 ^ 64) < j/\j < 2 ^ 64)
theorem Ef:iI X (binaryOp .Add) (Bu λi j=>.int (i+j)):=Hu λ_ _ _ _ _ _ _ q=>add_int q
theorem D':iI X (binaryOp .Sub) (Bu λi j=>.int (i-j)):=Hu λ_ _ _ _ _ _ _ q=>sub_int q
theorem Ec:iI X (binaryOp .Mod) (rI (λ_ j=>0 < j) λi j=>.int (i % j)):=Jj λi j _ _ _ _ _ h q=>by have J:(0:Int) < j:=h;exact mod_int' (by lia) (by rw[Int.fmod_eq_emod_of_nonneg i (by lia)];exact q)
theorem Eb:iI X (binaryOp .Pow) (rI Lw λi j=>.int (i ^ j.toNat)):=Jj λ_ _ _ _ _ _ _ h q=>pow_int_small h.1 h.2.1 h.2.2 q
theorem Mg{f:Value->Sem Value}{g:Int->Int}
  (rule:∀(i:Int)(t:Tok)(s:Shared)(Q:VP)(E:VP),Q (.int (g i) s.toks) { s with toks:=s.toks+1 }->wpAny (model X.prog X.w) X.A (f (.int i t)) Q E s) :
  Ln X f (rU λi=>.int (g i)):=by
 intro B s G H x v Q I r h;obtain⟨i,rfl,q⟩:=h;obtain⟨t,rfl⟩:=r;exact rule i t s _ _ ⟨.int (g i),H,I.tok _,⟨_,rfl⟩,q⟩
theorem DA:Ln X (unaryOp .USub) (rU λi=>.int (-i)):=Mg λ_ _ _ _ _ q=>neg_int q
end
noncomputable def G8:V->V->Bool
 | .non,.non=>true | .non,.int _=>true | .int _,.non=>true | .non,.bl _=>true | .bl _,.non=>true | .non,.str _=>true | .str _,.non=>true
 | .int _,.int _=>true | .bl _,.bl _=>true | .str _,.str _=>true | .byt _,.byt _=>true
 | .int _,.str _=>true | .str _,.int _=>true | .bl _,.str _=>true | .str _,.bl _=>true
 |_,_=>false
def Mt:R2:=λx y H Q=>G8 x y=true/\Q (.bl (decide (x=y))) H
def Ms:R2:=λx y H Q=>G8 x y=true/\Q (.bl (!decide (x=y))) H
theorem w8{i j:Int}:decide (V.int i=V.int j)=(i == j):=by rw[mZ];simp
theorem AA:decide (V.bl i=V.bl N)=(i == N):=by rw[mZ];simp
theorem w5:decide (V.str i=V.str N)=(i == N):=by rw[mZ];simp
theorem w9:decide (V.byt i=V.byt N)=(i.toList == N.toList):=by rw[mZ];cases i;cases N;simp
section
variable{X:Cx}{a b c:Expr}{ta tb tc:TE}{O:Pos}
theorem bg(I:Inv X B G H s)(q:Q (.bl k) H)(e:k=N):EP X B G Q (.bool N) s:=by subst e;exact⟨.bl k,H,I,rfl,q⟩
theorem zE:iI X (compareOp .Eq) Mt:=by
 intro B s G H x y v u Q I n r h;obtain⟨e,q⟩:=h;cases x with
 |non=>
  cases n;cases y with
  |non=>cases r;exact PySem.EqNone.eq_none_none (bg I q (by simp))
  |bl j=>cases r;exact PySem.EqNone.eq_none_bool (bg I q (by simp))
  |int j=>obtain⟨a,rfl⟩:=r;exact PySem.EqNone.eq_none_int (bg I q (by simp))
  |str j=>obtain⟨a,rfl⟩:=r;exact PySem.EqNone.eq_none_str (bg I q (by simp))
  |_=>exact absurd (show false=true from e) b9
 |bl i=>
  cases n;cases y with
  |non=>cases r;exact PySem.EqNone.eq_bool_none (bg I q (by simp))
  |bl j=>cases r;exact eq_bool (bg I q AA)
  |str j=>obtain⟨a,rfl⟩:=r;exact PySem.EqMixed.eq_bool_str (bg I q (by simp))
  |_=>exact absurd (show false=true from e) b9
 |int i=>
  obtain⟨t,rfl⟩:=n;cases y with
  |non=>cases r;exact PySem.EqNone.eq_int_none (bg I q (by simp))
  |int j=>obtain⟨a,rfl⟩:=r;exact eq_int (bg I q w8)
  |str j=>obtain⟨a,rfl⟩:=r;exact PySem.EqMixed.eq_int_str (bg I q (by simp))
  |_=>exact absurd (show false=true from e) b9
 |str i=>
  obtain⟨t,rfl⟩:=n;cases y with
  |non=>cases r;exact PySem.EqNone.eq_str_none (bg I q (by simp))
  |bl j=>cases r;exact PySem.EqMixed.eq_str_bool (bg I q (by simp))
  |int j=>obtain⟨a,rfl⟩:=r;exact PySem.EqMixed.eq_str_int (bg I q (by simp))
  |str j=>obtain⟨a,rfl⟩:=r;exact eq_str (bg I q w5)
  |_=>exact absurd (show false=true from e) b9
 |byt i=>
  obtain⟨t,rfl⟩:=n;cases y with
  |byt j=>obtain⟨a,rfl⟩:=r;exact PySem.W.eq_bytes (bg I q w9)
  |_=>exact absurd (show false=true from e) b9
 |_=>cases y<;>exact absurd (show false=true from e) b9
theorem zC:iI X (compareOp .NotEq) Ms:=by
 intro B s G H x y v u Q I n r h;obtain⟨e,q⟩:=h;cases x with
 |non=>
  cases n;cases y with
  |non=>cases r;exact PySem.EqNone.ne_none_none (bg I q (by simp))
  |bl j=>cases r;exact PySem.EqNone.ne_none_bool (bg I q (by simp))
  |int j=>obtain⟨a,rfl⟩:=r;exact PySem.EqNone.ne_none_int (bg I q (by simp))
  |str j=>obtain⟨a,rfl⟩:=r;exact PySem.EqNone.ne_none_str (bg I q (by simp))
  |_=>exact absurd (show false=true from e) b9
 |bl i=>
  cases n;cases y with
  |non=>cases r;exact PySem.EqNone.ne_bool_none (bg I q (by simp))
  |bl j=>cases r;exact ne_bool (bg I q (congrArg not AA))
  |str j=>obtain⟨a,rfl⟩:=r;exact PySem.EqMixed.ne_bool_str (bg I q (by simp))
  |_=>exact absurd (show false=true from e) b9
 |int i=>
  obtain⟨t,rfl⟩:=n;cases y with
  |non=>cases r;exact PySem.EqNone.ne_int_none (bg I q (by simp))
  |int j=>obtain⟨a,rfl⟩:=r;exact ne_int (bg I q (congrArg not w8))
  |str j=>obtain⟨a,rfl⟩:=r;exact PySem.EqMixed.ne_int_str (bg I q (by simp))
  |_=>exact absurd (show false=true from e) b9
 |str i=>
  obtain⟨t,rfl⟩:=n;cases y with
  |non=>cases r;exact PySem.EqNone.ne_str_none (bg I q (by simp))
  |bl j=>cases r;exact PySem.EqMixed.ne_str_bool (bg I q (by simp))
  |int j=>obtain⟨a,rfl⟩:=r;exact PySem.EqMixed.ne_str_int (bg I q (by simp))
  |str j=>obtain⟨a,rfl⟩:=r;exact ne_str (bg I q (congrArg not w5))
  |_=>exact absurd (show false=true from e) b9
 |byt i=>
  obtain⟨t,rfl⟩:=n;cases y with
  |byt j=>obtain⟨a,rfl⟩:=r;exact PySem.W.ne_bytes (bg I q (congrArg not w9))
  |_=>exact absurd (show false=true from e) b9
 |_=>cases y<;>exact absurd (show false=true from e) b9
theorem Hi:iI X (compareOp .Lt) (Bu λi j=>.bl (decide (i < j))):=BO λ_ _ _ _ _ _ _ q=>lt_int q
theorem Hj:iI X (compareOp .LtE) (Bu λi j=>.bl (decide (i≤j))):=BO λ_ _ _ _ _ _ _ q=>le_int q
theorem Hk:iI X (compareOp .Gt) (Bu λi j=>.bl (decide (j < i))):=BO λ_ _ _ _ _ _ _ q=>gt_int q
theorem Hl:iI X (compareOp .GtE) (Bu λi j=>.bl (decide (j≤i))):=BO λ_ _ _ _ _ _ _ q=>ge_int q
theorem Ed:iI X (compareOp .Is) (λx y H Q=>y=.non/\Q (.bl (decide (x=.non))) H):=by
 intro B s G H x y v u Q I r a h;obtain⟨rfl,q⟩:=h;cases a;refine is_none_gen (bg I q ?_);cases x<;>first
  |(cases r;rfl)
  |(obtain⟨t,rfl⟩:=r;rfl)
theorem BK:iI X (compareOp .IsNot) (λx y H Q=>y=.non/\Q (.bl (!decide (x=.non))) H):=by
 intro B s G H x y v u Q I r a h;obtain⟨rfl,q⟩:=h;cases a;refine isnot_none_gen (bg I q ?_);cases x<;>first
  |(cases r;rfl)
  |(obtain⟨t,rfl⟩:=r;rfl)
theorem Em(b:Expr)(h:N≠.In:=by decide)(h2:N≠.NotIn:=by decide):behindInMarks N b=false:=by
 have e:(N == CmpOp.In)=false:=by cases N<;>first|rfl|exact absurd rfl h
 have x:(N == CmpOp.NotIn)=false:=by cases N<;>first|rfl|exact absurd rfl h2
 cases b<;>simp[behindInMarks,e,x]
theorem wE{o:CmpOp}{r:R2}(f:iI X (compareOp o) r)(n:PE X a ta)(k:PE X b tb)(m:behindInMarks o b=false):PE X (.Compare a [o] [b] O) (DJ r ta tb):=by intro B s G H Q I h;exact wpAny_Compare1 (Fj n k I h λv u p x y H2 e c t q=>f B p G H2 x y v u Q e c t q) m
noncomputable def yS(t:TE):TT:=λG H Q=>t G H λx H'=>∃k,x=.bl k/\Q k H'
theorem wz(o:iI X (compareOp N) r)(p:PE X a ta)(q:PE X b tb)(d:behindInMarks N b=false):PT X (.Compare a [N] [b] O) (yS (DJ r ta tb)):=by
 intro B s G H Q I h;refine wpAny_isTrue_Compare1 (cV (p B s G H _ I h) fun v F ⟨x,U,f,j,w⟩=>cV (q B F G U _ f w) fun u K ⟨y,H2,m,l,g⟩=>
  cV (o B K G H2 x y v u _ m j l g) λc P ⟨z,n,t,S,k,e,i⟩=>?_) d
 subst e;cases S;exact jw ⟨n,t,i⟩
noncomputable def va(r e:R2)(ta tb tc:TE):TE:=λG H Q=>ta G H λx U=>tb G U λy H2=>r x y H2 λz h=>∃k,z=.bl k /\
 (if k=true then tc G h λw a=>e y w a Q else Q (.bl false) h)
theorem zA(F:iI X (compareOp op) r)(o:iI X (compareOp N) r')(i:PE X a ta)(j:PE X b tb)(l:PE X c tc)
  (S:lastMarks [op,N] [b,c]=false:=by with_unfolding_all rfl):PE X (.Compare a [op,N] [b,c] O) (va r r' ta tb tc):=by
 intro B s G H Q I h;refine Compare_chain (cV (i B s G H _ I h) fun v J ⟨x,U,p,C,K⟩=>chain_link (cV (j B J G U _ p K) fun u L ⟨y,H2,w,m,P⟩=>
  cV (F B L G H2 x y v u _ w C m P) λd M ⟨z,n,f,D,k,e,q⟩=>?_)) S
 subst e;cases D;refine jw ?_;cases k with
 |false=>exact ite_ff ⟨.bl false,n,f,rfl,q⟩
 |true=>exact ite_tt (chain_last (cV (l B M G n _ f q) λT R ⟨V,t,g,E,A⟩=>o B R G t y V u T Q g m E A))
theorem ze(C:iI X (compareOp op) r)(o:iI X (compareOp N) r')(F:PE X a ta)(K:PE X b tb)(P:PE X c tc)
  (A:lastMarks [op,N] [b,c]=false:=by with_unfolding_all rfl):PT X (.Compare a [op,N] [b,c] O) (yS (va r r' ta tb tc)):=by
 intro B s G H Q I h;refine isTrue_chain (cV (F B s G H _ I h) fun v Z ⟨x,U,w,T,J⟩=>test_link (cV (K B Z G U _ w J) fun u s2 ⟨y,H2,g,m,L⟩=>
  cV (C B s2 G H2 x y v u _ g T m L) λd s3 ⟨z,n,f,V,k,e,q⟩=>?_)) A
 subst e;cases V;refine jw ?_;cases k with
 |false=>obtain⟨k',l,E⟩:=q;cases l;exact ite_ff ⟨n,f,E⟩
 |true=>refine ite_tt (test_last (cV (P B s3 G n _ f q) λw' s4 ⟨z',t,i,W,M⟩=>cV (o B s4 G t y z' u w' _ i m W M) λd' s5 D=>?_));obtain⟨z2,p,j,Y,k2,S,R⟩:=D;subst S;cases Y;exact jw ⟨p,j,R⟩
def Fp(K:FG)(x:V)(H:Hp)(k:Bool):Prop:=
 match x with
 | .non=>k=false
 | .bl b=>k=b
 | .int i=>k=(i != 0)
 | .str y=>y.length≤sizeLine/\k=((y.length:Int) != 0)
 | .byt y=>y.size≤sizeLine/\k=((y.size:Int) != 0)
 | .ref p=>(∃xs,ie K H p xs/\k=!xs.isEmpty)\/(∃xs,sS K H p xs/\k=!xs.isEmpty)\/∃j,H p=some (.dK j)/\k=!j.isEmpty
 |_=>False
theorem vD(r:KV j N):(!N.isEmpty)=!j.isEmpty:=by cases r<;>rfl
theorem oh(r:aM xs N):(!N.toArray.isEmpty)=!xs.isEmpty:=by cases r<;>simp
theorem jH:(sizeLine:Nat) < 2 ^ 63:=by rw[lm];decide
theorem DF:Lo X (λx H Q=>∃k,Fp X.K x H k/\Q k H):=by
 intro B s G H x v Q I n h;obtain⟨k,e,q⟩:=h;have g:=jH;have o:sizeLine=16777216:=lm;cases x with
 |non=>cases n;have a:k=false:=e;subst a;exact truthy_none ⟨H,I,q⟩
 |bl b=>cases n;have a:k=b:=e;subst a;exact jw ⟨H,I,q⟩
 |int i=>obtain⟨t,rfl⟩:=n;have a:k=(i != 0):=e;subst a;exact PySem.P.truthy_int ⟨H,I,q⟩
 |str y=>obtain⟨t,rfl⟩:=n;obtain⟨u,a⟩:y.length≤sizeLine/\k=((y.length:Int) != 0):=e;subst a;exact PySem.P.truthy_str (by lia) ⟨H,I.tok _,q⟩
 |byt y=>obtain⟨t,rfl⟩:=n;obtain⟨u,a⟩:y.size≤sizeLine/\k=((y.size:Int) != 0):=e;subst a;exact PySem.W.truthy_bytes (by lia) ⟨H,I.tok _,q⟩
 |ref p=>
  cases n;have a:(∃xs,ie X.K H p xs/\k=!xs.isEmpty)\/(∃xs,sS X.K H p xs/\k=!xs.isEmpty)\/∃j,H p=some (.dK j)/\k=!j.isEmpty:=e;rcases a with ⟨xs,f,a⟩|⟨xs,f,a⟩|⟨j,f,a⟩
  .subst a;obtain⟨d,r,w,z⟩:=I.list f;have l:=r.length;exact wpAny_truthy_list w.isList (by simp only[List.size_toArray];lia) ⟨H,I.tok _,by rw[oh r];exact q⟩
  .subst a;obtain⟨d,r,w,z⟩:=I.tuple f;have l:=r.length;exact truthy_tuple w (by simp only[List.size_toArray];lia) ⟨H,I.tok _,by rw[oh r];exact q⟩
  .subst a;obtain⟨z,S,c,r,m⟩:j.length≤sizeLine/\(p == sysModules)=false/\∃c,KV j c/\s.heap.DictOf (bH X.prog X.w) p c:=I.hok p _ f;have l:j.length=c.length:=Paired.length r;exact wpAny_truthy_dict S m (by lia) ⟨H,I.tok _,by rw[vD r];exact q⟩
 |_=>exact(show False from e).elim
theorem zd(n:PE X a ta)(f:∀w,isTrue a X.env w=(do let v <- w;standAt a.pos;holding [v] (truthy v))) :
  PT X a (λG H Q=>ta G H λx H'=>∃k,Fp X.K x H' k/\Q k H'):=by
 intro B s G H Q I h;exact isTrue_plain (cV (n B s G H _ I h) λv b z=>by obtain⟨x,U,e,r,q⟩:=z;exact DF B b G U x v Q e r q) (f _)
theorem vm:iI X (binaryOp .Add) (λx y H Q=>∃i j,x=.str i/\y=.str j/\i.length+j.length≤sizeLine/\Q (.str (i++j)) H):=by intro B s G H x y v u Q I r a h;obtain⟨i,j,rfl,rfl,z,q⟩:=h;obtain⟨t,rfl⟩:=r;obtain⟨e,rfl⟩:=a;exact add_str (λe tk=>⟨.str (i++j),H,I.tok _,⟨_,rfl⟩,q⟩) z
theorem vals1(r:aM [x] Y):∃u,Y=[u]/\RelV x u:=by
 cases r with
 |cons h a=>cases a;exact⟨_,rfl,h⟩
theorem vals2(r:aM [x,y] Y):∃u w,Y=[u,w]/\RelV x u/\RelV y w:=by
 cases r with
 |cons h a=>
  cases a with
  |cons e s=>cases s;exact⟨_,_,rfl,h,e⟩
theorem AJ:dU X (.builtin "abs") (λxs H Q=>∃i,xs=[.int i]/\Q (.int (if i < 0 then -i else i)) H):=by intro B s G H xs Y Q I r h;obtain⟨i,rfl,q⟩:=h;obtain⟨u,rfl,t,rfl⟩:=vals1 r;exact call_abs_int λu tk=>⟨.int (if i < 0 then -i else i),H,I.tok _,⟨_,rfl⟩,q⟩
theorem qq:dU X (.type "int") (λxs H Q=>(∃i,xs=[.int i]/\Q (.int i) H)\/∃k,xs=[.bl k]/\Q (.int (if k then 1 else 0)) H):=by
 intro B s G H xs Y Q I r h;rcases h with ⟨i,rfl,q⟩|⟨k,rfl,q⟩
 .obtain⟨u,rfl,t,rfl⟩:=vals1 r;exact call_int_int ⟨.int i,H,I,⟨_,rfl⟩,q⟩
 .obtain⟨u,rfl,x⟩:=vals1 r;cases x;exact call_int_bool ⟨.int (if k then 1 else 0),H,I.tok _,⟨_,rfl⟩,q⟩
end
structure ObjM(h:Heap)(x dx C:Addr)(mA:SV):Prop where
 obj:h.get? x=some (PySem.W.instObj C dx)
 ns:h.Ns1 dx mA
 ne:dx≠x
theorem xP(n:h.Ns1 dx mA):∃d,h.get? dx=some d/\∀name,PySem.W.lookIn name d=some (mA name):=by
 obtain⟨o,es,p,f,hd,s,_,m⟩:=n;refine⟨o,f,λname=>?_⟩;have e:=m name;unfold nsFind findBy at e;rw[<- Array.find?_toList]at e;unfold PySem.W.lookIn;rw[hd];dsimp only;split
 .rename_i y q;rw[q]at e;exact congrArg some e
 .rename_i q;rw[q]at e;have a:es.toList.any (·.refKey)=false:=by
   rw[List.any_eq_false];intro y b;obtain⟨z,t,k⟩:=s y (Array.mem_toList_iff.mp b);simp[DictEntry.refKey,k]
  have x:¬es.toList.any (·.refKey)=true:=by rw[a];exact b9
  rw[if_neg x];exact congrArg some e
variable{C:Addr}
theorem ObjM.look(I:ObjM h x dx C mA):∃o,PySem.W.InstAt h x (PySem.W.instObj C dx) C (some o)/\∀name,PySem.W.lookIn name o=some (mA name):=
 let ⟨o,a,l⟩:=xP I.ns
 ⟨o,⟨I.obj,rfl,rfl,a⟩,l⟩
section
variable{prog:Program}{w:World}{A:Around}{E:VP}{s:Shared}{K:FG}{x dx C f:Addr}{mA:SV}{name:Str}{v:Value}
theorem B'(X:K.In s.heap)(I:ObjM s.heap x dx C mA)(g:PySem.W.plainGet K C name=true)(n:PySem.W.hasDictIn K C=true)
  (e:PySem.W.findIn K (.ref C) name=some none) (k:mA name=some v) (a:PySem.W.handedIn v=true) (h:Q v { s with toks:=s.toks+1 }) :
  wpAny (model prog w) A (getAttr (.ref x) name N) Q E s:=by
 obtain⟨o,J,l⟩:=I.look;exact PySem.W.get_value X J (qU g).1 (PySem.W.findObj_own n e rfl (by rw[l,k])) a h
theorem An(X:K.In s.heap)(I:ObjM s.heap x dx C mA)(g:PySem.W.plainGet K C name=true)
  (a:PySem.W.findIn K (.ref C) name=some (some (.ref f))) (t:PySem.W.isFn K (.ref f)=true) (v:mA name=none) (h:Q (.ref f,[.ref x]) s) :
  wpAny (model prog w) A (getMethod (.ref x) name N) Q E s:=by
 obtain⟨o,J,l⟩:=I.look;exact PySem.W.method_fn X J (qU g).1 (qU g).2 a (kM.mp t) (by show(PySem.W.lookIn name o).map (·.isSome)=some false;rw[l,v];rfl) h
theorem Bp(X:K.In s.heap)(I:ObjM s.heap x dx C mA)
  (q:PySem.W.findIn K (.ref C) "__setattr__"=some (some (.builtin "object.__setattr__"))) (t:PySem.W.plainOver K C=true) (u:PySem.W.takerIn K C name=some none) (m:PySem.W.hasDictIn K C=true)
  (hw:PySem.Within mA N) (z:N.length≤sizeLine)
  (h:∀h',ObjM h' x dx C (λy=>if y=name then some v else mA y)->Heap.SameBut dx s.heap h'->Q () { s with heap:=h',toks:=s.toks+2 }) :
  wpAny (model prog w) A (setAttr (.ref x) name v) Q E s:=by
 obtain⟨H,J,l⟩:=I.look;refine PySem.W.set_plain X J q (PySem.W.osa_open (s:={ s with toks:=s.toks+1 }) (r:=none) X J t u λb=>?_);obtain⟨i,f,d⟩:=PySem.W.any_some m;have g:s.heap.get? x=some ⟨.ref C,some dx,.plain,#[]⟩:=I.obj;refine wpAny_bind (wpAny_pure (wpAny_bind (wpAny_bind (wpAny_loadPart g (wpAny_bind (PySem.W.Looks.here (s:={ s with toks:=s.toks+1 }) (PySem.W.looks_clsIn X f) ?_))))));rw[d];refine wpAny_pure (a:=some dx) (wpAny_bind (wpAny_pure (wpAny_bind ?_)));refine wpAny_nsSet1 (s:={ s with toks:=s.toks+1 }) I.ns λh' n e=>?_;obtain⟨j,k,p,o,D,c⟩:=n.count (PySem.Within.cons name v hw);refine wpAny_bind (wpAny_lookBehind o (by rw[D];exact pastItsLine_dict (aU c (by rw[bt];lia))) ?_);exact wpAny_pure (h _ ⟨(e.2 _ (Ne.symm I.ne)).trans I.obj,n,I.ne⟩ e)
theorem zN(X:K.In s.heap)(m:PySem.W.makesIn K C=true)
  (q:PySem.W.findIn K (.ref C) "__init__"=some (some (.ref f))) (x:PySem.W.typeIn K (.ref f)=some (.type "function"))
  (h:codeAny (model prog w) (A.under (.builtin "type.__call__" ⟨.ref C::N,kw⟩)) (.call (.ref f) ⟨.ref (s.heap.objs.size+1)::N,kw⟩) (PySem.W.InitBack (s.heap.objs.size+1) R)
   { s with heap:=(s.heap.push PySem.W.emptyDict).push (PySem.W.instObj C s.heap.objs.size) }) :
  codeAny (model prog w) A (.call (.ref C) ⟨N,kw⟩) R s:=by
 obtain⟨a,g,d,t,os⟩:=s;exact PySem.W.make_core (PySem.W.makes_of X m) (qI X q) (λe=>PySem.W.bind_fn X e x) (.inl rfl) h
end
noncomputable def im(f:Str)(v:V):List (Str×V)->List (Str×V)
 | []=>[(f,v)]
 |(g,x)::r=>if g=f then (g,v)::r else (g,x)::im f v r
theorem mh(f g:Str)(v:V):∀fs:List (Str×V),(im f v fs).lookup g=if g=f then some v else fs.lookup g
 | []=>by
  show List.lookup g [(f,v)]=_;by_cases h:g=f
  .have b:(g == f)=true:=kM.mpr h;simp only[List.lookup,b,if_pos h]
  .have b:(g == f)=false:=kx.mpr h;simp only[List.lookup,b,if_neg h]
 |(k,x)::r=>by
  have i:=mh f g v r;rw[show im f v ((k,x)::r)=(if k=f then (k,v)::r else (k,x)::im f v r) from rfl];by_cases a:k=f
  .rw [if_pos a];by_cases h:g=k
   .have b:(g == k)=true:=kM.mpr h;simp only[List.lookup,b,if_pos (h.trans a)]
   .have b:(g == k)=false:=kx.mpr h;simp only[List.lookup,b,if_neg (λe:g=f=>h (e.trans a.symm))]
  .rw [if_neg a];by_cases h:g=k
   .have b:(g == k)=true:=kM.mpr h;simp only[List.lookup,b,if_neg (λe:g=f=>a (h.symm.trans e))]
   .have b:(g == k)=false:=kx.mpr h;simp only[List.lookup,b];exact i
theorem lM(f:Str)(v:V):∀fs:List (Str×V),f ∈ (im f v fs).map (·.1)/\∀g,g ∈ fs.map (·.1)->g ∈ (im f v fs).map (·.1)
 | []=>⟨by simp[im],λg h=>by simp at h⟩
 |(k,x)::r=>by
  obtain⟨i,s⟩:=lM f v r;rw[show im f v ((k,x)::r)=(if k=f then (k,v)::r else (k,x)::im f v r) from rfl];by_cases a:k=f
  .rw [if_pos a];subst a;exact⟨by simp,λg h=>by simpa using h⟩
  .rw [if_neg a];refine⟨?_,λg h=>?_⟩
   .rw [List.map_cons];exact a6 _ i
   .rw [List.map_cons]at h ⊢;rcases ba.mp h with e|e
    .exact ba.mpr (.inl e)
    .exact a6 _ (s g e)
theorem mi(f:Str)(v:V):∀fs:List (Str×V),(im f v fs).length≤fs.length+1
 | []=>by simp[im]
 |(k,x)::r=>by
  have i:=mi f v r;rw[show im f v ((k,x)::r)=(if k=f then (k,v)::r else (k,x)::im f v r) from rfl];by_cases h:k=f
  .rw [if_pos h,bt,bt];lia
  .rw [if_neg h,bt,bt];lia
theorem jj.some_of{v:V}{o:OV}(r:jj (some v) o):∃u,o=some u/\RelV v u:=by
 cases o with
 |none=>exact(show False from r).elim
 |some u=>exact⟨u,rfl,r⟩
theorem jj.none_of{o:OV}(r:jj none o):o=none:=by
 cases o with
 |none=>rfl
 |some u=>exact(show False from r).elim
variable{v:V}
theorem x3(r:RelV v u):PySem.W.handedIn u=true:=by
 cases v with
 |non=>cases (show u=Value.none from r);rfl
 |bl b=>cases (show u=Value.bool b from r);rfl
 |int i=>obtain⟨t,e⟩:=(show ∃t,u=Value.int i t from r);cases e;rfl
 |str x=>obtain⟨t,e⟩:=(show ∃t,u=Value.str x t from r);cases e;rfl
 |byt b=>obtain⟨t,e⟩:=(show ∃t,u=Value.bytes b t from r);cases e;rfl
 |flt b=>obtain⟨t,e⟩:=(show ∃t,u=Value.float b t from r);cases e;rfl
 |ref a=>cases (show u=Value.ref a from r);rfl
 |ty n=>cases (show u=Value.type n from r);rfl
section
variable{P:Program}{w:World}{H H':Hp}{h h':Heap}{a C dx:Addr}{fs fs':List (Str×V)}
theorem nh(o:jk P w H h)(e:H a=some (.ins C dx fs)):∃mA,ObjM h a dx C mA/\(∀f,jj (fs.lookup f) (mA f))/\PySem.Within mA (fs.map (·.1))/\fs.length≤1000/\H dx=some (.own a):=by obtain⟨d,z,x,b,mA,n,r,q⟩:=(show cf P w H h a (.ins C dx fs) from o a _ e);exact⟨mA,⟨b,n,x⟩,r,q,z,d⟩
end
structure Cls(K:FG)(C:Addr):Prop where
 pg:PySem.W.plainGet K C Str.empty=true
 hd:PySem.W.hasDictIn K C=true
 po:PySem.W.plainOver K C=true
 sa:PySem.W.findIn K (.ref C) "__setattr__"=some (some (.builtin "object.__setattr__"))
theorem Cls.get(c:Cls K C)(f:Str):PySem.W.plainGet K C f=true:=c.pg
def kL(K:FG)(C:Addr)(f:Str):Prop:=PySem.W.findIn K (.ref C) f=some none
theorem kL.taker(n:kL K C f):PySem.W.takerIn K C f=some none:=by unfold PySem.W.takerIn;rw[show PySem.W.findIn K (.ref C) f=some none from n];rfl
structure Con(K:FG)(C:Addr)(f:Str)(v:V)(u:Value):Prop where
 at_:PySem.W.findIn K (.ref C) f=some (some u)
 rel:RelV v u
 get:PySem.W.specialIn K u "__get__"=some none
 cp:PySem.W.copiedNames.contains f=false
structure Meth(K:FG)(C:Addr)(m:Str)(f:Addr):Prop where
 at_:PySem.W.findIn K (.ref C) m=some (some (.ref f))
 fn:PySem.W.isFn K (.ref f)=true
 kp:PySem.W.keepIn K (.ref f)=true
section
variable{X:Cx}{B:PN}{G:St}{H:Hp}{s:Shared}{a C dx:Addr}{fs:List (Str×V)}{f:Str}{v:V}{A:Around}{E:VP}
theorem vH{b:Bool}{Q:VP}(I:Inv X B G H s)(e:H a=some (.ins C dx fs))(c:Cls X.K C)(n:kL X.K C f)(l:fs.lookup f=some v)
  (h:∀u z,Inv X B G H z->RelV v u->Q u z):wpAny (model X.prog X.w) A (getAttr (.ref a) f b) Q E s:=by
 obtain⟨mA,O,r,_,_,_⟩:=nh I.hok e;obtain⟨u,k,x⟩:=jj.some_of (v:=v) (o:=mA f) (by rw[<- l];exact r f);exact B' I.kIn O (c.get f) c.hd n k (x3 x) (h u _ (I.tok _) x)
theorem oz{m:Str}{g:Addr}{p:Sem Bool}{Q:Value×LV->Shared->Prop}(I:Inv X B G H s)(e:H a=some (.ins C dx fs))(c:Cls X.K C)(k:Meth X.K C m g)(l:fs.lookup m=none)
  (h:Q (.ref g,[.ref a]) s):wpAny (model X.prog X.w) A (getMethod (.ref a) m p) Q E s:=by
 obtain⟨mA,O,r,_,_,_⟩:=nh I.hok e;have n:mA m=none:=jj.none_of (by rw[<- l];exact r m);exact An I.kIn O (c.get m) k.at_ k.fn n h
theorem vg(I:Inv X B G H s)(e:H a=some (.ins C dx fs))(c:Cls X.K C)(n:kL X.K C f)(S:fs.length < 1000)(j:RelV y u)
  (h:∀z,Inv X B G (bW H a (.ins C dx (im f y fs))) z->Q () z):wpAny (model X.prog X.w) A (setAttr (.ref a) f u) Q E s:=by
 obtain⟨mA,O,r,w,_,t⟩:=nh I.hok e;have i:(fs.map (·.1)).length≤sizeLine:=by rw[a7,lm];lia
 refine Bp I.kIn O c.sa c.po n.taker c.hd w i λh' m l=>h _ ?_;have hd:∃o,h'.get? dx=some o:=let ⟨o,_,_,p,_⟩:=m.ns;⟨o,p⟩
 refine I.write (x:=a) (e:=dx) (by rw[e];exact True.intro) (.inr t) (λb q v k=>(l.2 b v).trans k) hd ?_;refine⟨by rw[ao O.ne];exact t,?_,O.ne,m.obj,_,m.ns,λg=>?_,λg d=>?_⟩
 .have:=mi f y fs;lia
 .show jj ((im f y fs).lookup g) (if g=f then some u else mA g);rw[mh];by_cases q:g=f
  .rw [if_pos q,if_pos q];exact j
  .rw [if_neg q,if_neg q];exact r g
 .by_cases q:g=f
  .rw [q];exact(lM f y fs).1
  .refine (lM f y fs).2 g (w g λk=>d ?_);show(if g=f then some u else mA g)=none;rw[if_neg q];exact k
theorem Inv.made(I:Inv X B G H s):Inv X B G (bW (bW H s.heap.objs.size (.own (s.heap.objs.size+1))) (s.heap.objs.size+1) (.ins C s.heap.objs.size []))
  { s with heap:=(s.heap.push PySem.W.emptyDict).push (PySem.W.instObj C s.heap.objs.size) }:=by
 have h:(s.heap.push PySem.W.emptyDict).get? s.heap.objs.size=some PySem.W.emptyDict:=Heap.get?_push_size s.heap rfl;have k:((s.heap.push PySem.W.emptyDict).push (PySem.W.instObj C s.heap.objs.size)).get? (s.heap.objs.size+1)=some (PySem.W.instObj C s.heap.objs.size):=by have:=Heap.get?_push_size (s.heap.push PySem.W.emptyDict) (o:=PySem.W.instObj C s.heap.objs.size) rfl;rwa [Heap.size_push]at this
 have f:(s.heap.push PySem.W.emptyDict).Ns s.heap.objs.size (λ_=>none):=⟨PySem.W.emptyDict,#[],_,h,rfl,(λe c=>absurd c (by simp)),λ_=>rfl⟩;have x:=I.laid (a:=s.heap.objs.size) (o:=.own (s.heap.objs.size+1)) (h':=s.heap.push PySem.W.emptyDict) (t':=s.toks) (λb u q=>Heap.get?_push_of_some _ q) (Nat.le_refl _) ⟨_,h⟩;refine x.laid (a:=s.heap.objs.size+1) (o:=.ins C s.heap.objs.size []) (t':=s.toks) (λb u q=>Heap.get?_push_of_some _ q) (Nat.le_of_eq (Heap.size_push _ _)) ?_;have n:s.heap.objs.size≠s.heap.objs.size+1:=bM (qC _);refine⟨by rw[ao n,aE],Nat.zero_le _,n,k,λ_=>none,(Heap.Ns1.of_empty f).at λo q=>Heap.get?_push_of_some _ q,λ_=>True.intro,λy m=>absurd rfl m⟩
theorem Cr(b:attributeBase e f N (eval e N)=eval e N)
  (h:wpAny (model prog w) A (eval e N) (λo x=>wpAny (model prog w) A (getAttr o f true) Q E x) E s):wpAny (model prog w) A (eval (.Attribute e f O) N) Q E s:=
 Attribute_any_ h (by rw[arm_eval_Attribute,b])
end
def Kv(K:FG)(ta:TE)(f:Str):TE:=λG H Q=>ta G H λx U=>∃a C dx fs v,x=.ref a/\U a=some (.ins C dx fs)/\Cls K C/\kL K C f/\fs.lookup f=some v/\Q v U
def Kz(K:FG)(ta tv:TE)(f:Str):TS:=λD G H=>tv G H λy U=>ta G U λx H2=>∃a C dx fs,x=.ref a/\H2 a=some (.ins C dx fs)/\Cls K C/\kL K C f/\fs.length < 1000 /\
 D.nx G (bW H2 a (.ins C dx (im f y fs)))
section
variable{X:Cx}{o e value:Expr}{f:Str}{O pos' tpos:Pos}{ta tv:TE}
theorem D9(t:PE X e ta)(r:attributeBase e f X.env (eval e X.env)=eval e X.env):PE X (.Attribute e f O) (Kv X.K ta f):=by intro B s G H Q I h;refine Cr r (cV (t B s G H _ I h) λu w z=>?_);obtain⟨x,U,k,d,a,C,dx,fs,v,ex,m,c,n,l,q⟩:=z;subst ex;obtain rfl:u=Value.ref a:=d;exact vH k m c n l λi g b p=>⟨v,U,b,p,q⟩
theorem DY(r:PE X o ta)(v:PE X value tv)(t:swapsWith value (some (.Attribute o f pos')) O.line X.env=pure false):PS X (.Assign [.Attribute o f pos'] value O) (Kz X.K ta tv f):=by intro B s G H D I h;refine plainObj_wpAny_Assign_Attribute (cV (v B s G H _ I h) λu i ⟨y,U,e,g,q⟩=>cV (r B i G U _ e q) λp j z=>?_) t;obtain⟨x,H2,k,w,a,C,dx,fs,ex,m,c,n,l,d⟩:=z;subst ex;obtain rfl:p=Value.ref a:=w;exact vg k m c n l g λS b=>⟨G,_,b,d⟩
end
section
variable{X:Cx}{B:PN}{G:St}{H:Hp}{s:Shared}{A:Around}{E:VP}{Q:VP}{c:Value}{b:Bool}
inductive TyOf(K:FG)(H:Hp):V->Value->Prop where
 |non:TyOf K H .non (.type "NoneType")
 |bl (x:Bool):TyOf K H (.bl x) (.type "bool")
 |int (i:Int):TyOf K H (.int i) (.type "int")
 |str (x:Str):TyOf K H (.str x) (.type "str")
 |flt (x:UInt64):TyOf K H (.flt x) (.type "float")
 |lst {a:Addr}{xs:List V} (e:H a=some (.lst xs)):TyOf K H (.ref a) (.type "list")
 |frz {a:Addr}{o:Obj}{xs:List V} (e:H a=some (.frz o (.lst xs))):TyOf K H (.ref a) (.type "list")
 |tup {a:Addr}{xs:List V} (e:H a=some (.tup xs)):TyOf K H (.ref a) (.type "tuple")
 |dK {a:Addr}{kvs:List (bz×V)} (e:H a=some (.dK kvs)):TyOf K H (.ref a) (.type "dict")
 |dT {a:Addr}{kvs:List (List bz×V)} (e:H a=some (.dT kvs)):TyOf K H (.ref a) (.type "dict")
 |ins {a C dx:Addr}{fs:List (Str×V)} (e:H a=some (.ins C dx fs)) (cl:Cls K C) (ha:PySem.W.findIn K (.ref C) "__class__"=some (some (.builtin "object.__class__")))
   (hn:PySem.W.specialIn K (.builtin "object.__class__") "__get__"=some (some (.builtin "getset_descriptor.__get__"))) (htk:PySem.W.takesIn K (.builtin "object.__class__")=some true)
   (hm:PySem.W.mroIn K C (.type "object")=some true):TyOf K H (.ref a) (.ref C)
theorem gL(I:Inv X B G H s)(r:RelV x u)(ty:TyOf X.K H x t)(e:PySem.W.kitOne X.K t c=some b)(h:∀tk,Q (.bool b) { s with toks:=tk }) :
  wpAny (model X.prog X.w) A (call (.builtin "isinstance") [u,c]) Q E s:=by
 cases ty with
 |non=>cases (show u=Value.none from r);exact d4 PySem.W.kitx_none I.kIn True.intro e (λz=>nomatch z) h
 |bl y=>cases (show u=Value.bool y from r);exact d4 PySem.W.kitx_bool I.kIn True.intro e (λz=>nomatch z) h
 |int i=>obtain⟨t,q⟩:=(show ∃t,u=Value.int i t from r);cases q;exact d4 PySem.W.kitx_int I.kIn True.intro e (λz=>nomatch z) h
 |str y=>obtain⟨t,q⟩:=(show ∃t,u=Value.str y t from r);cases q;exact d4 PySem.W.kitx_str I.kIn True.intro e (λz=>nomatch z) h
 |flt y=>obtain⟨t,q⟩:=(show ∃t,u=Value.float y t from r);cases q;exact d4 PySem.W.kitx_float I.kIn True.intro e (λz=>nomatch z) h
 | @lst a xs f=>cases (show u=Value.ref a from r);obtain⟨_,_,n,_,J⟩:=(show cf X.prog X.w H s.heap a (.lst xs) from I.hok a _ f);exact d4 ny I.kIn ⟨_,J,rfl⟩ e (λz=>nomatch z) h
 | @frz a S xs f=>cases (show u=Value.ref a from r);obtain⟨_,_,_,n,_,J⟩:=(show cf X.prog X.w H s.heap a (.frz S (.lst xs)) from I.hok a _ f);exact d4 ny I.kIn ⟨_,J,rfl⟩ e (λz=>nomatch z) h
 | @tup a xs f=>cases (show u=Value.ref a from r);obtain⟨_,_,_,p⟩:=(show cf X.prog X.w H s.heap a (.tup xs) from I.hok a _ f);obtain⟨o,J,h2,_⟩:=p;exact d4 PySem.W.kitx_tuple I.kIn ⟨o,J,h2.1⟩ e (λz=>nomatch z) h
 | @dK a j f=>cases (show u=Value.ref a from r);obtain⟨_,_,K,_,p⟩:=(show cf X.prog X.w H s.heap a (.dK j) from I.hok a _ f);obtain⟨o,es,v,J,h2,_⟩:=p;exact d4 PySem.W.kitx_dict I.kIn ⟨o,J,h2.1⟩ e (λz=>nomatch z) h
 | @dT a j f=>cases (show u=Value.ref a from r);obtain⟨_,_,xs,_,o,es,v,J,h2,_⟩:=(show cf X.prog X.w H s.heap a (.dT j) from I.hok a _ f);exact d4 PySem.W.kitx_dict I.kIn ⟨o,J,h2.1⟩ e (λz=>nomatch z) h
 | @ins a C dx fs f l d g m w=>cases (show u=Value.ref a from r);obtain⟨mA,O,_⟩:=nh I.hok f;obtain⟨F,k,_⟩:=O.look;exact d4 (PySem.W.kitx_own (l.get _) l.hd d g m w) I.kIn k e (λz=>nomatch z) h
end
structure Room(k:Nat)(A:Around):Prop where
 hd:A.handled=none
 dp:A.depth+3 * k+5 < recursionLimit
 un:A.units+16 * k+200 < cLine
variable{k:Nat}
theorem Room.deeper(r:Room (k+1) A)(e:Env):Room k (A.deeper e):=
 ⟨r.hd,by have:=r.dp;show A.depth+1+3 * k+5 < _;lia,by have:=r.un;show A.units+3+16 * k+200 < _;lia⟩
variable{kw:List (Str×Value)}
theorem vq:(A.under (.builtin "type.__call__" ⟨.ref C::Y,kw⟩)).depth=A.depth+1:=by first|rfl|simp[Around.under,Code.weight,Code.isCreation,Code.isGuard,Code.isCaller,Code.frames,Code.isFrame,guardIds]
theorem vp:(A.under (.builtin "type.__call__" ⟨.ref C::Y,kw⟩)).units=A.units+1:=by first|rfl|simp[Around.under,Code.cUnits,Code.frames,Code.isFrame]
theorem Room.make(r:Room (k+1) A)(C:Addr)(Y:LV)(kw:List (Str×Value)):Room k (A.under (.builtin "type.__call__" ⟨.ref C::Y,kw⟩)):=
 ⟨r.hd,by have:=r.dp;rw[vq];lia,by have:=r.un;rw[vp];lia⟩
theorem Room.depth(r:Room k A):A.depth < recursionLimit:=by have:=r.dp;lia
noncomputable def GQ:TA:=λ_ H Q=>Q [] H
noncomputable def GW(ta:TE)(tr:TA):TA:=λG H Q=>ta G H λx U=>tr G U λxs H2=>Q (x::xs) H2
section
variable{X:Cx}{e:Expr}{es:Ab}{te:TE}{t:TA}{O:Pos}
theorem gm:PA X [] GQ:=λ_ _ _ _ H Q I h=>kt ⟨[],H,I,.nil,h⟩
theorem dR(k:PE X e te)(r:PA X es t)(f:starEach (e::es) X.env=(false,eval e X.env)::starEach es X.env:=by rfl):PA X (e::es) (GW te t):=by intro O B s G H Q I h;rw[f];show wpAny _ _ (spliced ((false,eval e X.env)::backTo O (starEach es X.env))) _ _ s;refine Calls.spliced_cons (cV (k B s G H _ I h) λu p z=>?_);obtain⟨x,U,a,c,q⟩:=z;exact cV (r O B p G U _ a q) λY v z=>by obtain⟨xs,H2,n,m,b⟩:=z;exact⟨x::xs,H2,n,.cons c m,b⟩
def Km(t:TA):TE:=λG H Q=>t G H λxs U=>xs.length≤sizeLine/\∀p,U p=none->Q (.ref p) (bW U p (.tup xs))
def Ks(t:TA):TE:=λG H Q=>t G H λxs U=>xs.length≤sizeLine/\∀p,U p=none->Q (.ref p) (bW U p (.lst xs))
theorem rF {N} (h:PA X es t):PE X (.Tuple es N O) (Km t):=by intro B s G H Q I n;refine wpAny_Tuple_spliced (cV (h O B s G H _ I n) λY x k=>?_);obtain⟨xs,U,a,r,z,q⟩:=k;refine⟨by rw[<- r.length];exact z,?_⟩;have f:U x.heap.objs.size=none:=a.hok.fresh (Nat.le_refl _);refine⟨.ref x.heap.objs.size,bW U x.heap.objs.size (.tup xs),a.laid (t':=x.toks) (λb u e=>Heap.get?_push_of_some _ e) (Nat.le_refl _) ?_,rfl,q _ f⟩;exact⟨z,Y,r,mU.new _ _⟩
theorem zt(h:PA X es t):PE X (.List es O) (Ks t):=by intro B s G H Q I n;refine wpAny_List_spliced (cV (h O B s G H _ I n) λY x k=>?_);obtain⟨xs,U,a,r,z,q⟩:=k;refine⟨by rw[<- r.length];exact z,?_⟩;have f:U x.heap.objs.size=none:=a.hok.fresh (Nat.le_refl _);refine⟨.ref x.heap.objs.size,bW U x.heap.objs.size (.lst xs),a.laid (t':=x.toks) (λb u e=>Heap.get?_push_of_some _ e) (Nat.le_refl _) ?_,rfl,q _ f⟩;exact⟨z,Y,0,r,Heap.get?_push_size _ rfl⟩
end
noncomputable abbrev Sp:=List V->Hp->VK->XK->Prop
noncomputable abbrev yt:=List Env->Hp->Shared->XK->VP
structure Env0(P:Program)(w:World)(K:FG)(mg:SV)(base:Heap)(A:Around)(outer:List Env)(s:Shared)(H:Hp):Prop where
 frames:A.frames=some outer
 mod:Mod K mg base
 bs:∀b o,base.get? b=some o->s.heap.get? b=some o/\H b=none
 bsz:base.objs.size≤s.heap.objs.size
 funs:s.heap.FunFrames base outer
 frf:∀b ∈ kf outer,H b=none
 hok:jk P w H s.heap
 bare:AllBare s.gens
def CE(o:List Env)(P:Program)(w:World)(H:Hp)(s:Shared)(Q:VK)(u:Value)(z:Shared):Prop:=
 ∃v H',z.os=s.os/\AllBare z.gens/\Un (kf o) [] H H' s.heap z.heap/\jk P w H' z.heap/\RelV v u/\Q v H'
def CR(CX:yt)(o:List Env)(P:Program)(w:World)(H:Hp)(s:Shared)(Q:VK)(E:XK)(r:Result)(z:Shared):Prop:=
 match r with
 | .ok (.ret u)=>CE o P w H s Q u z
 | .ok _=>False
 | .error e=>CX o H s E e z
structure FnOk(P:Program)(w:World)(K:FG)(mg:SV)(base:Heap)(CX:yt)(k:Nat)(f:Addr)(fd:FuncData)(ps:LS)(sp:Sp):Prop where
 len:∀vs H Q E,sp vs H Q E->vs.length=ps.length
 run:∀(A:Around)(outer:List Env)(s:Shared)(H:Hp)(args:Args)(us:LV)(vs:List V)(Q:VK)(E:XK),Room k A->Env0 P w K mg base A outer s H->BindsTo s fd args (ps.zip us)->aM vs us->sp vs H Q E ->
  codeAny (model P w) A (.call (.ref f) args) (CR CX outer P w H s Q E) s
theorem FnOk.imp(F:FnOk P w K mg base CX k f fd ps sp)
  (h:∀v H Q E,N v H Q E->sp v H Q E):FnOk P w K mg base CX k f fd ps N:=
 ⟨λv H Q E q=>F.len v H Q E (h _ _ _ _ q),λA o s H a Y v Q E r e b n x=>F.run A o s H a Y v Q E r e b n (h _ _ _ _ x)⟩
theorem Env0.make(e:Env0 P w K mg base A N s H)(C:Addr)(Y:LV)(kw:List (Str×Value)) :
  Env0 P w K mg base (A.under (.builtin "type.__call__" ⟨.ref C::Y,kw⟩)) N s H:=⟨by first|exact e.frames|(simpa[Around.under,Code.envs,Code.isFrame,pushEnvs] using e.frames),e.mod,e.bs,e.bsz,e.funs,e.frf,e.hok,e.bare⟩
section
variable{X:Cx}{B:PN}{G:St}{H:Hp}{s z:Shared}
theorem Inv.env0(I:Inv X B G H s):Env0 X.prog X.w X.K X.mg X.base X.A X.stack s H:=
 ⟨I.ok.frames,I.ok.mod,I.bs,aU I.ok.bsz I.sz,I.stack,I.stkFree,I.hok,I.bare⟩
theorem Inv.after(I:Inv X B G H s)(h:CE X.stack X.prog X.w H s Q u z):EP X B G Q u z:=by obtain⟨v,H',os,a,un,o,r,q⟩:=h;obtain⟨n,g,d,t,e⟩:=z;obtain rfl:e=s.os:=os;exact⟨v,H',I.call (h':=n) (g':=g) (d':=d) (t':=t) (ch:=[]) un o a (λb x=>absurd x (by simp)),r,q⟩
end
noncomputable def GY(sp:Sp)(dvs:List V)(E:XK)(t:TA):TE:=λG H Q=>t G H λv U=>sp (v++dvs) U Q E
def yV(C:Addr)(m:Str)(sp:Sp)(dvs:List V)(E:XK)(ta:TE)(t:TA):TE:=λG H Q=>ta G H λx U=>∃a dx fs,x=.ref a/\U a=some (.ins C dx fs)/\fs.lookup m=none /\
 t G U λv H2=>sp (x::(v++dvs)) H2 Q E
def GU(C:Addr)(sp:Sp)(dvs:List V)(E:XK)(t:TA):TE:=λG H Q=>t G H λs U=>∀x dx,U x=none->U dx=none->dx≠x ->
 sp (.ref x::(s++dvs)) (bW (bW U dx (.own x)) x (.ins C dx [])) (λv H2=>v=.non/\Q (.ref x) H2) E
def Binds(K:FG)(fd:FuncData)(ps:LS)(ds:LV):Prop:=
 ∀(s:Shared)(Y:LV),K.In s.heap->(Y++ds).length=ps.length->BindsTo s fd ⟨Y,[]⟩ (ps.zip (Y++ds))
theorem Binds.all(h:∀Y:LV,Y.length=ps.length->bindArgs fd ⟨Y,[]⟩=pure (ps.zip Y)):Binds K fd ps []:=λs Y _ l=>by rw[List.append_nil]at l ⊢;exact .of_eq (h Y l)
def kK(CX:yt)(X:Cx)(E:XK):Prop:=∀(B:PN)(G:St)(H:Hp)(s:Shared)(e:Value)(z:Shared),Inv X B G H s->CX X.stack H s E e z->X.xe e z
section
variable{X:Cx}{CX:yt}{k:Nat}{f C:Addr}{fd:FuncData}{ps:LS}{sp:Sp}{dvs:List V}{ds:LV}{E:XK}{x m:Str}{p O apos:Pos}{e o:Expr}{es:Ab}{ta:TE}{t:TA}
theorem vj(F:FnOk X.prog X.w X.K X.mg X.base CX k f fd ps sp)(n:Room k X.A)(b:Binds X.K fd ps ds)(hd:aM dvs ds)(c:kK CX X E)
  (I:Inv X B G H s) (r:aM N Y) (h:sp (N++dvs) H Q E):wpAny (model X.prog X.w) X.A (call (.ref f) Y) (EP X B G Q) X.xe s:=by
 have x:aM (N++dvs) (Y++ds):=r.append hd;have a:(Y++ds).length=ps.length:=by rw[<- x.length];exact F.len _ _ _ _ h
 refine wpAny_call (lq (F.run X.A X.stack s H ⟨Y,[]⟩ (Y++ds) (N++dvs) Q E n I.env0 (b s Y I.kIn a) x h) λr z q=>?_);cases r with
 |error e=>exact c B G H s e z I q
 |ok l=>
  cases l with
  |ret u=>exact I.after q
  |next=>exact False.elim q
  |brk=>exact False.elim q
  |cont=>exact False.elim q
theorem rG(F:FnOk X.prog X.w X.K X.mg X.base CX k f fd ps sp)(w:Room k X.A)(g:Gl X x)(v:X.mg x=some (.ref f))(m:PySem.W.keepIn X.K (.ref f)=true)(b:Binds X.K fd ps ds)(hd:aM dvs ds)(u:kK CX X E)
  (n:PA X (e::es) t) (d:(x == ("__debug__":Str))=false:=by decide) (c:starEach (e::es) X.env=(false,eval e X.env)::starEach es X.env:=by rfl) (l:(backTo O (starEach es X.env)).any (·.1)=false:=by rfl) :
  PE X (.Call (.Name x p) (e::es) [] O) (GY sp dvs E t):=by
 intro B s G H Q I h;refine ku (j3 I g v ?_ d);refine qF (h₀:=X.base) I.ok.mod.kin m (cV (n O B s G H _ I h) λY i z=>?_) c l;obtain⟨j,U,a,r,q⟩:=z;refine⟨a.kIn,?_⟩;exact vj F w b hd u a r q
theorem BI(j:PE X o ta)(c:Cls X.K C)(d:Meth X.K C m f)(F:FnOk X.prog X.w X.K X.mg X.base CX k f fd ps sp)(y:Room k X.A)(i:Binds X.K fd ps ds)(hd:aM dvs ds)(K:kK CX X E)(g:PA X (e::es) t)
  (n:starEach (e::es) X.env=(false,eval e X.env)::starEach es X.env:=by rfl) (p:(backTo O (starEach es X.env)).any (·.1)=false:=by rfl)
  (S:eval (.Call (.Attribute o m apos) (e::es) [] O) X.env=(do
   let N <- eval o X.env
   standAt apos.atName
   let (f,first) <- holding [N] (getMethod N m pl)
   callWith O f first (backTo O (starEach (e::es) X.env)) (backToKw O (keywordEach [] X.env))):=by rfl) :
  PE X (.Call (.Attribute o m apos) (e::es) [] O) (yV C m sp dvs E ta t):=by
 intro B s G H Q I h;refine PySem.W.methodCall_KW (pl:=pl) (cV (j B s G H _ I h) λu D z=>?_) S;obtain⟨x,U,b,A,a,dx,fs,ex,w,l,q⟩:=z;subst ex;obtain rfl:u=Value.ref a:=A;refine oz b w c d l ?_;refine qF (first:=[.ref a]) (h₀:=X.base) I.ok.mod.kin d.kp (cV (g O B D G U _ b q) λY L z=>?_) n p;obtain⟨J,H2,v,r,P⟩:=z;refine⟨v.kIn,?_⟩;exact vj (Y:=.ref a::Y) (N:=.ref a::J) F y i hd K v (.cons rfl r) P
theorem zr(t:PE X o ta)(c:Cls X.K C)(n:Meth X.K C m f)(F:FnOk X.prog X.w X.K X.mg X.base CX k f fd ps sp)(p:Room k X.A)(r:Binds X.K fd ps ds)(hd:aM dvs ds)(d:kK CX X E)
  (v:eval (.Call (.Attribute o m apos) [] [] O) X.env=(do
   let N <- eval o X.env
   standAt apos.atName
   let (f,first) <- holding [N] (getMethod N m pl)
   callWith O f first (backTo O (starEach [] X.env)) (backToKw O (keywordEach [] X.env))):=by rfl) :
  PE X (.Call (.Attribute o m apos) [] [] O) (yV C m sp dvs E ta GQ):=by
 intro B s G H Q I h;refine PySem.W.methodCall_KW (pl:=pl) (cV (t B s G H _ I h) λu g z=>?_) v;obtain⟨x,U,e,w,a,dx,fs,ex,b,l,q⟩:=z;subst ex;obtain rfl:u=Value.ref a:=w;refine oz e b c n l ?_;exact PySem.W.callWith_K0 (first:=[.ref a]) e.kIn n.kp (vj (Y:=[.ref a]) (N:=[.ref a]) F p r hd d e (.cons rfl .nil) q)
structure Mk(K:FG)(C f:Addr):Prop where
 makes:PySem.W.makesIn K C=true
 init:PySem.W.findIn K (.ref C) "__init__"=some (some (.ref f))
 fn:PySem.W.isFn K (.ref f)=true
 kp:PySem.W.keepIn K (.ref C)=true
theorem y7(M:Mk X.K C f)(F:FnOk X.prog X.w X.K X.mg X.base CX k f fd ps sp)(d:Room (k+1) X.A)(t:Binds X.K fd ps ds)(hd:aM dvs ds)
  (w:kK CX X E) (I:Inv X B G H s) (r:aM N Y)
  (h:∀x dx,H x=none->H dx=none->dx≠x->sp (.ref x::(N++dvs)) (bW (bW H dx (.own x)) x (.ins C dx [])) (λv H2=>v=.non/\Q (.ref x) H2) E) :
  wpAny (model X.prog X.w) X.A (call (.ref C) Y) (EP X B G Q) X.xe s:=by
 have n:=h (s.heap.objs.size+1) s.heap.objs.size (I.hok.fresh (mW _)) (I.hok.fresh (Nat.le_refl _)) (bM (qC _));have a:=Inv.made (C:=C) I;have b:aM (V.ref (s.heap.objs.size+1)::(N++dvs)) (Value.ref (s.heap.objs.size+1)::(Y++ds)):=.cons rfl (r.append hd);have p:(Value.ref (s.heap.objs.size+1)::Y++ds).length=ps.length:=by have e:=b.length;rw[F.len _ _ _ _ n]at e;exact e.symm
 refine wpAny_call (zN (f:=f) I.kIn M.makes M.init (kM.mp M.fn) (lq (F.run _ X.stack _ _ ⟨Value.ref (s.heap.objs.size+1)::Y,[]⟩ (Value.ref (s.heap.objs.size+1)::(Y++ds)) _ _ E (d.make C Y [])
  (a.env0.make C Y []) (t _ (Value.ref (s.heap.objs.size+1)::Y) a.kIn p) b n) λr z q=>?_))
 cases r with
 |error e=>exact w B G _ _ e z a q
 |ok l=>
  cases l with
  |ret u=>obtain⟨v,H',c,i,m,g⟩:=a.after q;subst m;exact⟨i,⟨V.ref (s.heap.objs.size+1),H',c,rfl,g⟩⟩
  |next=>exact False.elim q
  |brk=>exact False.elim q
  |cont=>exact False.elim q
theorem BJ(M:Mk X.K C f)(F:FnOk X.prog X.w X.K X.mg X.base CX k f fd ps sp)(v:Room (k+1) X.A)(g:Gl X x)(m:X.mg x=some (.ref C))(b:Binds X.K fd ps ds)(hd:aM dvs ds)(w:kK CX X E)
  (n:PA X (e::es) t) (d:(x == ("__debug__":Str))=false:=by decide) (c:starEach (e::es) X.env=(false,eval e X.env)::starEach es X.env:=by rfl) (l:(backTo O (starEach es X.env)).any (·.1)=false:=by rfl) :
  PE X (.Call (.Name x p) (e::es) [] O) (GU C sp dvs E t):=by
 intro B s G H Q I h;refine ku (j3 I g m ?_ d);refine qF (h₀:=X.base) I.ok.mod.kin M.kp (cV (n O B s G H _ I h) λY u z=>?_) c l;obtain⟨i,U,a,r,q⟩:=z;refine⟨a.kIn,?_⟩;exact y7 M F v b hd w a r q
end
section
variable{X:Cx}{CX:yt}{k:Nat}{f C:Addr}{fd:FuncData}{ps ks:LS}{sp:Sp}{E:XK}{x m:Str}{p O apos kpos:Pos}{e o:Expr}{es:Ab}{kws:List Keyword}{te ta:TE}{t tk:TA}{nm:Option Str}
structure KBinds(K:FG)(fd:FuncData)(ps ks:LS)(g:LV->LV->LV)(gV:List V->List V->List V):Prop where
 to:∀(s:Shared)(us ws:LV),K.In s.heap->(g us ws).length=ps.length->BindsTo s fd ⟨us,ks.zip ws⟩ (ps.zip (g us ws))
 rel:∀{vs:List V}{us:LV}{zs:List V}{ws:LV},aM vs us->aM zs ws->aM (gV vs zs) (g us ws)
variable{g:LV->LV->LV}{gV:List V->List V->List V}
end
structure FnScope(N P:LS)(sc:Scope):Prop where
 kind:sc.kind=.function
 co:sc.isCoroutine=false
 gen:sc.isGenerator=false
 nd:N.Nodup
 pre:N.take P.length=P
 par:∀x ∈ P,sc.names.lookup x=some .local\/sc.names.lookup x=some .cell
 nofree:∀y ∈ sc.names,y.2≠.free
theorem qu{kindOf:Str->Option NameKind}{x:Str}:∀{b:List (Str×Value)}{m:SV},(∀v,(x,v) ∉ b)->bindL kindOf b m x=m x
 | [],_,_=>rfl
 |(n,v)::r,m,h=>by
  unfold bindL;rw[qu λw hw=>h w (a6 _ hw)];split
  .have:x≠n:=by rintro rfl;exact h v List.mem_cons_self
   simp[this]
  .rfl
theorem qw{kindOf:Str->Option NameKind}{x:Str}:∀{b:List (Str×Value)}{m:SV},(∀v,(x,v) ∉ b)->bindC kindOf b m x=m x
 | [],_,_=>rfl
 |(n,v)::r,m,h=>by
  unfold bindC;rw[qw λw hw=>h w (a6 _ hw)];split
  .rfl
  .have:x≠n:=by rintro rfl;exact h v List.mem_cons_self
   simp[this]
theorem qv{kindOf:Str->Option NameKind}{x:Str}{v:Value}:∀{P:LS}{s:LV}{i:Nat}{m:SV},P.Nodup->P[i]? = some x->s[i]? = some v->kindOf x=some .local ->
  bindL kindOf (P.zip s) m x=some v
 | [],_,_,_,_,h,_,_=>by simp at h
 |_::_,[],_,_,_,_,h,_=>by simp at h
 |p::P,w::s,0,m,n,J,h2,k=>by simp at J h2;subst J;subst h2;show bindL kindOf ((p,w)::P.zip s) m p=_;unfold bindL;rw[qu λv a=>(List.nodup_cons.mp n).1 (List.of_mem_zip a).1,if_pos k];simp
 |p::P,w::s,i+1,m,n,J,h2,k=>by show bindL kindOf ((p,w)::P.zip s) m x=_;unfold bindL;exact qv (i:=i) (List.nodup_cons.mp n).2 (by simpa using J) (by simpa using h2) k
theorem qx{kindOf:Str->Option NameKind}{x:Str}{v:Value}:∀{P:LS}{s:LV}{i:Nat}{m:SV},P.Nodup->P[i]? = some x->s[i]? = some v->kindOf x≠some .local ->
  bindC kindOf (P.zip s) m x=some v
 | [],_,_,_,_,h,_,_=>by simp at h
 |_::_,[],_,_,_,_,h,_=>by simp at h
 |p::P,w::s,0,m,n,J,h2,k=>by simp at J h2;subst J;subst h2;show bindC kindOf ((p,w)::P.zip s) m p=_;unfold bindC;rw[qw λv a=>(List.nodup_cons.mp n).1 (List.of_mem_zip a).1,if_neg k];simp
 |p::P,w::s,i+1,m,n,J,h2,k=>by show bindC kindOf ((p,w)::P.zip s) m x=_;unfold bindC;exact qx (i:=i) (List.nodup_cons.mp n).2 (by simpa using J) (by simpa using h2) k
noncomputable def start(N:LS)(v:List V):St:=v.map some++List.replicate (N.length-v.length) none
noncomputable def mR(CX:yt)(P:Program)(w:World)(K:FG)(mg:SV)(base:Heap)(N:LS)(q:Str)(c:Scope)(f:Addr)(d:Value)(A:Around)(o:List Env)(s:Shared)(H:Hp)(E:XK):Cx where
 prog:=P
 w:=w
 K:=K
 mg:=mg
 base:=base
 A:=A.deeper (envOfC q c s.heap.objs.size f d)
 N:=N
 s₀:=s
 H₀:=H
 env:=envOfC q c s.heap.objs.size f d
 outer:=o
 stack:=envOfC q c s.heap.objs.size f d::o
 ex:=[]
 calm:=true
 fn:=λ_=>true
 pn:=[]
 xe:=λe z=>wpAny (model P w) (A.deeper (envOfC q c s.heap.objs.size f d)) (leaving (envOfC q c s.heap.objs.size f d) e) (λ_ h=>CX o H s E e h) (λx h=>CX o H s E x h) z
variable{x:Str}
theorem uB{sc:Scope}(h:sc.names.lookup x=some .cell):∃c,(cellsFrom n sc.names []).lookup x=some c:=by have q:=PySem.W.cellsFrom_some sc.names n [] (.inl h);exact Option.isSome_iff_exists.mp q
theorem xW{CX:yt}{P:Program}{w:World}{K:FG}{mg:SV}{base:Heap}{N ps:LS}{l:Str}{o:Scope}{f:Addr}{D:Value}{A:Around}{t:List Env}{s L:Shared}{H:Hp}{E:XK}{Y:LV}{F:List V}
  (S:FnScope N ps o) (hd:A.handled=none) (d:Env0 P w K mg base A t s H) (T:F.length=ps.length) (r:aM F Y)
  (x:InCallC s s.heap.objs.size (bindL (envOfC l o s.heap.objs.size f D).kindOf (ps.zip Y) λ_=>none) (cellsFrom (s.heap.objs.size+1) o.names []) (bindC (envOfC l o s.heap.objs.size f D).kindOf (ps.zip Y) λ_=>none) L) :
  Inv (mR CX P w K mg base N l o f D A t s H E) [] (start N F) H L:=by
 have O:ps.length≤N.length:=by have:=congrArg List.length S.pre;rw[List.length_take]at this;lia
 obtain⟨J,tk,rfl,G⟩:=x.done;have j:∀b:Addr,b ∉ (mR CX P w K mg base N l o f D A t s H E).ex:=fun b z=>absurd (show b ∈ ([]:List Addr) from z) (by simp);refine⟨⟨d.mod,S.kind,rfl,rfl,Nat.le_refl _,fun y z c J h2=>?_,fun y g=>?_,fun y c _ h=>?_,fun _=>hd,Around.frames_deeper d.frames,.inr ⟨rfl,rfl⟩,fun b z=>absurd z (j b),d.bs,d.bsz,fun b _ _=>j b,fun b z=>absurd z (j b),d.funs,d.frf⟩,
  rfl,d.bare,Un.kept G,⟨_,x.toInCall.ns,λi y v J h2 R=>?_⟩,λy c h=>⟨_,x.cell y c h⟩,d.hok.fresh (Nat.le_refl _),λy c h=>?_,λp B=>absurd (show p ∈ ([]:PN) from B) (by simp),d.hok.kept G,?_⟩
 .exact name_of_addr x.apart (nA J) (nA h2)
 .have g:o.names.lookup y=some .cell\/o.names.lookup y=some .free:=g;rcases g with g|g
  .exact uB g
  .exact absurd rfl (S.nofree _ (nA g))
 .exact iK (x.above y c (nA h))
 .have q:i < F.length:=by
   unfold start at h2;by_cases q:i < F.length
   .exact q
   .rw [fK (by simpa using q)]at h2;rw[uT]at h2;split at h2<;>cases h2
  have M:F[i]? = some v:=by
   unfold start at h2;rw[List.getElem?_append_left (by simpa using q),List.getElem?_map]at h2;cases e:F[i]? with
   |none=>rw[e]at h2;cases h2
   |some a=>rw[e]at h2;cases h2;rfl
  obtain⟨u,I,Q⟩:=r.get M;have B:ps[i]? = some y:=by rw[<- S.pre,iP (by lia)];exact J
  have C:ps.Nodup:=by rw[<- S.pre];exact S.nd.sublist (List.take_sublist _ _)
  refine⟨u,Q,?_⟩;rcases S.par y (bL B) with k|k
  .exact .inl ⟨k,qv C B I k⟩
  .obtain⟨c,e⟩:=uB (n:=s.heap.objs.size+1) k;refine .inr ⟨.inl k,c,e,?_⟩;have m:=x.cell y c e;rw[qx C B I (by show o.names.lookup y≠_;rw[k];decide)]at m;exact m
 .exact d.hok.fresh (iK (x.above y c (nA h)))
 .unfold start;show _=N.length;rw[b_,a7,List.length_replicate];lia
theorem C4{CX:yt}{P:Program}{w:World}{K:FG}{mg:SV}{base:Heap}{k:Nat}{f:Addr}{name a:Str}{p:Arguments}{m:List Stmt}{c:Scope}{dV kV B pm d Z oc:Value}{U od:Option Addr}
  {R:Array (OV)}{N ps:LS}{sp:Sp} (lk:K.lookup f=some ⟨oc,od,.func (PySem.W.fnOf name a p m c dV kV B pm U d Z),R⟩) (L:PySem.W.codeIn K d a=true) (S:FnScope N ps c)
  (len:∀g H Q E,sp g H Q E->g.length=ps.length)
  (j:∀(A:Around) (h:List Env) (s:Shared) (H:Hp) (g:List V) (Q:VK) (E:XK),Room k (A.deeper (envOfC a c s.heap.objs.size f d))->sp g H Q E ->
   ∃t,jW (mR CX P w K mg base N a c f d A h s H E) m t/\t { nx:=λ_ H'=>Q .non H',rt:=Q } (start N g) H) :
  FnOk P w K mg base CX (k+1) f (PySem.W.fnOf name a p m c dV kV B pm U d Z) ps sp:=by
 refine⟨len,λA h s H W Y g Q E M C hb r G=>?_⟩;have hl:=len _ _ _ _ G;have X:K.In s.heap:=C.mod.kin.keeps λb o e=>(C.bs b o e).1;have O:s.heap.NoLimit:=C.mod.nolimit.keeps λb o e=>(C.bs b o e).1;have l:∀y ∈ ps.zip Y,c.names.lookup y.1=some .local\/(c.names.lookup y.1=some .cell/\((cellsFrom (s.heap.objs.size+1) c.names []).lookup y.1).isSome=true):=λ⟨n,v⟩ hy=>by
  rcases S.par n (List.of_mem_zip hy).1 with q|q
  .exact .inl q
  .exact .inr ⟨q,PySem.W.cellsFrom_some _ _ _ (.inl q)⟩
 refine codeAny_call_function M.depth (X _ _ lk) rfl S.co S.gen rfl (PySem.W.codeRec_of X L) (hb _ _ _ _ ?_);refine wpAny_newFunctionEnv_cells S.kind l λenv he s1 x=>?_;subst he;refine⟨O.keeps x.toInCall.keep,codeAny_func ?_⟩;obtain⟨t,ht,hq⟩:=j A h s H g Q E (M.deeper _) G;have I:Inv (mR CX P w K mg base N a c f d A h s H E) [] (start N g) H s1:=xW S M.hd C hl r x;refine wpAny_mono (ht [] s1 (start N g) H _ I hq) (λfl z F=>?_) λe z F=>F;have D:∀{i:St}{H':Hp}{v:V}{u:Value},Inv (mR CX P w K mg base N a c f d A h s H E) [] i H' z->RelV v u->Q v H'->CE h P w H s Q u z:=
  λ{i H' v u} J T q=>⟨v,H',J.os,J.bare,J.base,J.hok,T,q⟩
 cases fl with
 |ret u=>obtain⟨v,i,H',J,T,q⟩:=F;exact D J T q
 |next=>obtain⟨i,H',J,q⟩:=F;exact D (v:=V.non) (u:=Value.none) J rfl q
 |brk=>obtain⟨_,_,_,q⟩:=F;exact False.elim q
 |cont=>obtain⟨_,_,_,q⟩:=F;exact False.elim q
section
variable{X:Cx}{x:Str}{p O:Pos}{e:Expr}{es:Ab}{t:TA}{id T:String}{r:List V->Hp->VK->Prop}
noncomputable def LA(r:List V->Hp->VK->Prop)(t:TA):TE:=λG H Q=>t G H λv U=>r v U Q
theorem jD(c:dU X (.builtin id) r)(g:Gl X x)(m:X.mg x=none)(v:bootBuiltins x=some (.builtin id))(n:PA X (e::es) t)(f:x≠"__name__":=by decide)(d:(x == ("__debug__":Str))=false:=by decide)
  (k:starEach (e::es) X.env=(false,eval e X.env)::starEach es X.env:=by rfl) (l:(backTo O (starEach es X.env)).any (·.1)=false:=by rfl):PE X (.Call (.Name x p) (e::es) [] O) (LA r t):=by
 intro B s G H Q I h;refine ku (kB I g m v ?_ f d);exact PyProof.Rows.callWith_builtin1 (cV (n O B s G H _ I h) λY w z=>by obtain⟨u,U,a,b,q⟩:=z;exact c B w G U u Y Q a b q) k l
theorem jZ(c:dU X (.type T) r)(g:Gl X x)(m:X.mg x=none)(v:bootBuiltins x=some (.type T))(n:PA X (e::es) t)(f:x≠"__name__":=by decide)(d:(x == ("__debug__":Str))=false:=by decide)
  (k:starEach (e::es) X.env=(false,eval e X.env)::starEach es X.env:=by rfl) (l:(backTo O (starEach es X.env)).any (·.1)=false:=by rfl):PE X (.Call (.Name x p) (e::es) [] O) (LA r t):=by
 intro B s G H Q I h;refine ku (kB I g m v ?_ f d);exact nC (cV (n O B s G H _ I h) λY w z=>by obtain⟨u,U,a,b,q⟩:=z;exact c B w G U u Y Q a b q) k l
end
end L2
namespace HT
open PySem PyProof.Rows
section
variable{prog:Program}{w:World}{A:Around}{E:VP}{s:Shared}
theorem Ck(q:IsTup s.heap t vs.toArray)(p:IsTup s.heap b N.toArray)(v:vs≠[])
  (J:N=[]->Q (.ref t) s) (h2:N≠[]->Q (.ref s.heap.objs.size) { s with heap:=s.heap.push { cls:=.type "tuple",data:=.seq (vs++N).toArray } })
  (z:vs.length+N.length≤sizeLine):wpAny (model prog w) A (binaryOp .Add (.ref t) (.ref b)) Q E s:=by
 obtain⟨⟨cls,k,data,r⟩,o,f,n,hd⟩:=id q;obtain⟨⟨a,d,data2,l⟩,h,c,m,x⟩:=id p;simp only at f hd c x;subst f hd c x;have e:vs.toArray++N.toArray=(vs++N).toArray:=by simp
 by_cases hw:N=[]
 .exact concat_meets ⟨_,o,rfl⟩ ⟨_,h,rfl⟩ noFill_tuple_add seq_tuple_add uQ uU (uX _ _)
   (tuple_addW1 t b vs.toArray N.toArray n m k d r l (by simpa using v) (by simp[hw])) ⟨o,h,J hw⟩
 .refine concat_meets ⟨_,o,rfl⟩ ⟨_,h,rfl⟩ noFill_tuple_add seq_tuple_add uQ uU (uX _ _)
   (tuple_addW2 t b vs.toArray N.toArray n m k d r l (by simpa using v) (by simpa using hw) (by rw[List.size_toArray,List.size_toArray];exact z)) ⟨o,h,?_⟩
  rw[e];exact h2 hw
noncomputable def eM(n d:Nat):Option Int->Nat
 |none=>d
 |some v=>if v < 0 then (v+(n:Int)).toNat else min v.toNat n
theorem tz(n d:Nat):eM n d none=d:=rfl
theorem wx(n d k:Nat):eM n d (some (k:Int))=min k n:=by show(if (k:Int) < 0 then ((k:Int)+(n:Int)).toNat else min (k:Int).toNat n)=min k n;rw[if_neg (by lia),Int.toNat_natCast]
theorem DS(n d:Nat)(hd:d≤n)(o:Option Int):eM n d o≤n:=by
 cases o with
 |none=>exact hd
 |some v=>
  show(if v < 0 then (v+(n:Int)).toNat else min v.toNat n)≤n;by_cases h:v < 0
  .rw [if_pos h];lia
  .rw [if_neg h];exact Nat.min_le_right _ _
theorem xb(v:Int)(n d:Nat):(if v < 0 then max (v+(n:Int)) 0 else min v (n:Int))=((eM n d (some v):Nat):Int):=by
 show(if v < 0 then max (v+(n:Int)) 0 else min v (n:Int))=(((if v < 0 then (v+(n:Int)).toNat else min v.toNat n):Nat):Int);by_cases h:v < 0
 .simp only[if_pos h];lia
 .simp only[if_neg h];lia
theorem v_(I q:Option Int)(n:Nat):Builtin.Slice.sliceAdjust I q 1 (n:Int)=(((eM n 0 I:Nat):Int),((eM n n q:Nat):Int)):=by
 have J:¬((1:Int) < 0):=by lia
 unfold Builtin.Slice.sliceAdjust;simp only[J,jq];refine Prod.ext ?_ ?_
 .cases I with
  |none=>rfl
  |some v=>exact xb v n 0
 .cases q with
  |none=>rfl
  |some v=>exact xb v n n
theorem vl(i j:Nat):Builtin.Slice.slicePlaces (i:Int) (j:Int) 1=j-i:=by
 unfold Builtin.Slice.slicePlaces;have J:(1:Int) > 0:=by lia
 simp only[J,iR,Int.ediv_one];split<;>lia
theorem nM(p:IsPart v o)(h:Q o s):wpAny (model prog w) A (Builtin.Slice.slicePartIndex v) Q E s:=by
 cases p with
 |none=>exact slicePart_none h
 |int i t=>exact slicePart_int h
theorem iu{l:Addr}{v u:Value}{I q:Option Int}{n:Nat}{Q:Int×Int×Nat->Shared->Prop}(a:s.heap.IsSliceOf l v u .none)(p:IsPart v I)(e:IsPart u q)
  (h:Q (((eM n 0 I:Nat):Int),1,eM n n q-eM n 0 I) s):wpAny (model prog w) A (Builtin.Slice.sliceApplied (.ref l) (pure (n:Int))) Q E s:=by
 obtain⟨os,o,c,d⟩:=id a;unfold Builtin.Slice.sliceApplied Builtin.Slice.sliceFields;refine wpAny_bind (wpAny_bind (wpAny_field o d (x:=v) rfl (wpAny_bind (wpAny_field o d (x:=u) rfl (wpAny_bind (wpAny_field o d (x:=.none) rfl (wpAny_pure ?_)))))));refine wpAny_bind (slicePart_none ?_);show wpAny _ _ (if ((1:Int) == 0)=true then _ else _) _ _ s;rw[if_neg (by decide)];refine wpAny_bind (nM p (wpAny_bind (nM e (wpAny_bind (wpAny_pure ?_)))));show wpAny _ _ (match Builtin.Slice.sliceAdjust I q 1 (n:Int) with|(I,q)=>pure (I,(1:Int),Builtin.Slice.slicePlaces I q 1)) _ _ s;rw[v_ I q n];show wpAny _ _ (pure (((eM n 0 I:Nat):Int),(1:Int),Builtin.Slice.slicePlaces ((eM n 0 I:Nat):Int) ((eM n n q:Nat):Int) 1)) _ _ s;rw[vl];exact wpAny_pure h
theorem zm(xs:Array Value)(i k:Nat):((List.range k).filterMap λ(m:Nat)=>xs[((i:Int)+(m:Int) * 1).toNat]?).toArray=((xs.toList.drop i).take k).toArray:=by
 have e:(λ(m:Nat)=>xs[((i:Int)+(m:Int) * 1).toNat]?)=λm=>xs[i+m]?:=by
  funext m;have:((i:Int)+(m:Int) * 1).toNat=i+m:=by lia
  rw[this]
 rw[e];have:=pick_run xs i k
 rw[List.filterMap_map]at this;have h:((λx=>xs[x]?) ∘ λx=>i+x)=λm=>xs[i+m]?:=rfl;rw[h]at this;rw[this]
theorem k6{t l:Addr}{i:Array Value}{v u:Value}{I q:Option Int}{Q:VP}(e:IsTup s.heap t i)(k:s.heap.IsSliceOf l v u .none)(p:IsPart v I)(f:IsPart u q)
  (hw:¬(eM i.size 0 I=0/\eM i.size i.size q=i.size))
  (h:Q (.ref s.heap.objs.size) { s with heap:=s.heap.push { cls:=.type "tuple",data:=.seq ((i.toList.drop (eM i.size 0 I)).take (eM i.size i.size q-eM i.size 0 I)).toArray } })
  (z:i.size≤sizeLine):wpAny (model prog w) A (getItem (.ref t) (.ref l)) Q E s:=by
 have a:sizeOk (.seq ((i.toList.drop (eM i.size 0 I)).take (eM i.size i.size q-eM i.size 0 I)).toArray):=by show((i.toList.drop (eM i.size 0 I)).take (eM i.size i.size q-eM i.size 0 I)).toArray.size≤sizeLine;rw[List.size_toArray,List.length_take,List.length_drop,nz];lia
 have j:eM i.size i.size q≤i.size:=DS _ _ (Nat.le_refl _) q;obtain⟨os,o,c,d⟩:=id k;have T:s.TypeIs (.ref l) "slice":=⟨os,o,c⟩;unfold getItem;try with_reducible refine wpAny_holding ?_
 first|refine wpAny_bind (wpAny_pure ?_)|skip
 refine wpAny_bind (wpAny_sequenceKey e.typeIs (by decide) ?_);refine wpAny_bind (wpAny_callSpecial?_slot (name:=Str.ofString "__getitem__") e.typeIs kr
  (wpAny_call_entry kr e.typeIs entry_tuple_getitem ?_ (args_tuple_getitem _ _)))
 show wpAny _ _ (Builtin.Tuple.tupleItemsOf (.ref t) >>= _) _ _ s;refine wpAny_bind (tupleItemsOf_ e ?_);refine wpAny_bind (kO T ?_);rw[if_pos (by decide)];refine wpAny_bind (iu k p f ?_);have n:¬((((eM i.size 0 I:Nat):Int) == 0 && (1:Int) == 1 && (eM i.size i.size q-eM i.size 0 I) == i.size)=true):=by intro x;rw[Bool.and_eq_true,Bool.and_eq_true]at x;have b:((eM i.size 0 I:Nat):Int)=0:=eq_of_beq x.1.1;have r:eM i.size i.size q-eM i.size 0 I=i.size:=eq_of_beq x.2;exact hw ⟨by lia,by lia⟩
 show wpAny _ _ (if (((eM i.size 0 I:Nat):Int) == 0 && (1:Int) == 1 && (eM i.size i.size q-eM i.size 0 I) == i.size)=true then _ else _) _ _ s;rw[if_neg n,zm];first
  |exact wpAny_bind (m:=Builtin.Tuple.tupleExact _) (wpAny_newObj_type (wpAny_pure ⟨_,rfl,wpAny_pure h⟩) a)
  |exact wpAny_bind (m:=Builtin.Tuple.tupleExact _) (wpAny_newObj_type (wpAny_bind (wpAny_pure (wpAny_pure ⟨_,rfl,wpAny_pure h⟩))) a)
  |exact wpAny_bind (wpAny_bind (m:=Builtin.Tuple.tupleExact _) (wpAny_newObj_type (wpAny_pure (wpAny_pure ⟨_,rfl,wpAny_pure h⟩)) a))
  |exact wpAny_bind (wpAny_bind (m:=Builtin.Tuple.tupleExact _) (wpAny_newObj_type (wpAny_pure ⟨_,rfl,wpAny_pure h⟩) a))
end
end HT
namespace L2
open PySem PySem.Spec PyProof.Rows
noncomputable abbrev TO:=St->Hp->(Option Int->Hp->Prop)->Prop
def PO(X:Cx)(e:Option Expr)(t:TO):Prop:=
 ∀(B:PN)(s:Shared)(G:St)(H:Hp)(Q:Option Int->Hp->Prop),Inv X B G H s->t G H Q ->
  wpAny (model X.prog X.w) X.A (evalPart e X.env) (λu z=>∃o H',Inv X B G H' z/\IsPart u o/\Q o H') X.xe s
noncomputable def Bl:TO:=λ_ H Q=>Q none H
noncomputable def GO(t:TE):TO:=λG H Q=>t G H λx U=>∃i,x=.int i/\Q (some i) U
section
variable{X:Cx}{e:Expr}{te:TE}{I q:Option Expr}{tl th:TO}{O p2:Pos}
theorem BE:PO X none Bl:=by intro B s G H Q I h;rw[evalPart_none];exact wpAny_pure ⟨none,H,I,.none,h⟩
theorem BC(h:PE X e te):PO X (some e) (GO te):=by
 intro B s G H Q I hw;rw[evalPart_some];refine cV (h B s G H _ I hw) λu k z=>?_
 obtain⟨x,U,a,r,n⟩:=z;obtain⟨i,rfl,q⟩:=n;obtain⟨t,rfl⟩:=r;exact⟨some i,U,a,.int i t,q⟩
def Dc(X:Cx)(r:V->Option Int->Option Int->Hp->VK->Prop):Prop:=
 ∀(B:PN)(s:Shared)(G:St)(H:Hp)(x:V)(v h u:Value)(I q:Option Int)(l:Addr)(Q:VK),Inv X B G H s->RelV x v->s.heap.IsSliceOf l h u .none->IsPart h I->IsPart u q->r x I q H Q ->
  ∃T id,typeLookup (.type T) "__getitem__"=pure (some (.builtin id))/\s.TypeIs v T/\wpAny (model X.prog X.w) X.A (getItem v (.ref l)) (EP X B G Q) X.xe s
theorem Dc.or(h:Dc X r)(h':Dc X N):Dc X (λx I q H Q=>r x I q H Q\/N x I q H Q):=by
 intro B s G H x v f b I q l Q a k n p u e;rcases e with e|e
 .exact h B s G H x v f b I q l Q a k n p u e
 .exact h' B s G H x v f b I q l Q a k n p u e
noncomputable def Mi(r:V->Option Int->Option Int->Hp->VK->Prop)(te:TE)(tl th:TO):TE:=λG H Q=>te G H λx U=>tl G U λl H2=>th G H2 λu h=>r x l u h Q
theorem zq(o:Dc X r)(i:PE X e te)(y:PO X I tl)(F:PO X q th):PE X (.Subscript e (.Slice I q none p2) O) (Mi r te tl th):=by
 intro B s G H Q a h;refine Subscript_ (cV (i B s G H _ a h) λv J z=>?_);obtain⟨x,U,t,E,A⟩:=z;refine wpAny_Slice (cV (y B J G U _ t A) λf L ⟨l,H2,p,K,C⟩=>cV (F B L G H2 _ p C) λc k z=>?_);obtain⟨u,m,d,P,D⟩:=z;rw[evalPart_none];refine wpAny_pure ?_;have w:Inv X B G m { k with heap:=k.heap.push { cls:=.type "slice",data:=.fields #[f,c,.none] } }:=d.kept (t':=k.toks) λb M n=>Heap.get?_push_of_some _ n
 obtain⟨T,id,g,S,j⟩:=o B { k with heap:=k.heap.push { cls:=.type "slice",data:=.fields #[f,c,.none] } } G m x v f c l u k.heap.objs.size Q w E (Heap.IsSliceOf.new ..) K P D;show wpAny (model X.prog X.w) X.A (subscriptTail e (.Slice I q none p2) v (.ref k.heap.objs.size)) (EP X B G Q) X.xe { k with heap:=k.heap.push { cls:=.type "slice",data:=.fields #[f,c,.none] } };exact tail_any (ops:=[.ref k.heap.objs.size,v]) S g j (by with_unfolding_all rfl)
def uu(xs:List V)(I q:Option Int):List V:=(xs.drop (HT.eM xs.length 0 I)).take (HT.eM xs.length xs.length q-HT.eM xs.length 0 I)
theorem mB(xs:List V)(I q:Option Int):(uu xs I q).length≤xs.length:=by unfold uu;rw[List.length_take,List.length_drop];lia
def KA(K:FG):V->Option Int->Option Int->Hp->VK->Prop:=λx I q H Q=>∃a xs,x=.ref a/\sS K H a xs /\
 ¬(HT.eM xs.length 0 I=0/\HT.eM xs.length xs.length q=xs.length)/\∀p,H p=none->Q (.ref p) (bW H p (.tup (uu xs I q)))
theorem DQ:Dc X (KA X.K):=by
 intro B s G H x v w g I q d Q e c k p u h;obtain⟨a,xs,rfl,f,hw,n⟩:=h;cases c;obtain⟨i,r,t,z⟩:=e.tuple f;have l:i.toArray.size=xs.length:=by rw[List.size_toArray];exact r.length.symm
 refine⟨"tuple",_,kr.lookup,t.typeIs,?_⟩;refine HT.k6 t k p u (by rw[l];exact hw) ?_ (by rw[l];exact z);rw[l];refine⟨.ref s.heap.objs.size,_,e.laid (t':=s.toks) (o:=.tup (uu xs I q)) (λb m n=>Heap.get?_push_of_some _ n) (Nat.le_refl _) ?_,rfl,n _ (e.hok.fresh (Nat.le_refl _))⟩;exact⟨aU (mB xs I q) z,_,(r.drop (HT.eM xs.length 0 I)).take (HT.eM xs.length xs.length q-HT.eM xs.length 0 I),mU.new _ _⟩
def Ha(K:FG):R2:=λx y H Q=>∃a b xs ys,x=.ref a/\y=.ref b/\sS K H a xs/\sS K H b ys/\xs≠[]/\xs.length+ys.length≤sizeLine /\
 (ys=[]->Q (.ref a) H)/\(ys≠[]->∀p,H p=none->Q (.ref p) (bW H p (.tup (xs++ys))))
theorem aM.nil_iff(r:aM xs Y):Y=[]↔xs=[]:=by
 cases r with
 |nil=>simp
 |cons _ _=>simp
theorem BM:iI X (binaryOp .Add) (Ha X.K):=by intro B s G H x y v u Q I g j h;obtain⟨a,b,xs,ys,rfl,rfl,k,f,c,n,m,d⟩:=h;cases g;cases j;obtain⟨t,e,p,_⟩:=I.tuple k;obtain⟨i,r,p2,_⟩:=I.tuple f;refine HT.Ck p p2 (λz=>c (e.nil_iff.mp z)) (λz=>⟨.ref a,H,I,rfl,m (r.nil_iff.mp z)⟩) (λz=>?_) (by rw[<- e.length,<- r.length];exact n);refine⟨.ref s.heap.objs.size,_,I.laid (t':=s.toks) (o:=.tup (xs++ys)) (λb l q=>Heap.get?_push_of_some _ q) (Nat.le_refl _) ?_,rfl,d (λw=>z (r.nil_iff.mpr w)) _ (I.hok.fresh (Nat.le_refl _))⟩;exact⟨by rw[b_];exact n,_,e.append r,mU.new _ _⟩
end
noncomputable def vw(n:Nat)(i:Int):Option Nat:=if 0≤i then (if i < n then some i.toNat else none) else if -(n:Int)≤i then some (i+n).toNat else none
variable{α:Type}
def atI(xs:List α)(i:Int):Option α:=(vw xs.length i).bind λj=>xs[j]?
variable{n:Nat}
theorem wR{i:Int}(h:vw n i=some N):seqIndex? i n=some N/\N < n/\-(n:Int)≤i/\i < n:=by
 unfold vw at h;by_cases x:0≤i
 .rw [if_pos x]at h;by_cases J:i < n
  .rw [if_pos J]at h;have e:i.toNat=N:=Option.some.inj h;exact⟨by rw[seqIndex_of x J,e],by lia,by lia,J⟩
  .rw [if_neg J]at h;cases h
 .rw [if_neg x]at h;by_cases J:-(n:Int)≤i
  .rw [if_pos J]at h;have e:(i+n).toNat=N:=Option.some.inj h;exact⟨by rw[seqIndex_neg (by lia) J,e],by lia,J,by lia⟩
  .rw [if_neg J]at h;cases h
theorem sR{i:Int}(h:atI xs i=some v):∃j,seqIndex? i xs.length=some j/\xs[j]? = some v/\j < xs.length/\-(xs.length:Int)≤i/\i < xs.length:=by
 unfold atI at h;cases e:vw xs.length i with
 |none=>rw[e]at h;cases h
 |some j=>rw[e]at h;obtain⟨J,h2,x,a⟩:=wR e;exact⟨j,J,h,h2,x,a⟩
theorem atI_last(xs:List α)(v:α):atI (xs++[v]) (-1)=some v:=by
 have h:(xs++[v]).length=xs.length+1:=by simp
 have e:vw (xs++[v]).length (-1)=some xs.length:=by unfold vw;rw[h,if_neg (by decide),if_pos (by lia)];congr 1;lia
 unfold atI;rw[e];show(xs++[v])[xs.length]? = some v;simp
def li(b:Expr):Prop:=∀o i,subscripted b false o i=operate [o,i] (getItem o i)
def AU(X:Cx)(r:R2):Prop:=
 ∀(value l:Expr)(B:PN)(s:Shared)(G:St)(H:Hp)(x y:V)(v u:Value)(Q:VK),Inv X B G H s->RelV x v->RelV y u->r x y H Q ->
  subscripted l false v u=operate [v,u] (getItem v u)->wpAny (model X.prog X.w) X.A (subscriptTail value l v u) (EP X B G Q) X.xe s
def M4(X:Cx)(id:String)(r:V->List V->Hp->VK->Prop):Prop:=
 ∀(B:PN)(s:Shared)(G:St)(H:Hp)(x:V)(xs:List V)(v:Value)(Y:LV)(Q:VK),Inv X B G H s->RelV x v->aM xs Y->r x xs H Q ->
  wpAny (model X.prog X.w) X.A (call (.builtin id) (v::Y)) (EP X B G Q) X.xe s
section
variable{X:Cx}{a b:Expr}{ta tb:TE}{O:Pos}
theorem AU.or(h:AU X r)(h':AU X N):AU X (λx y H Q=>r x y H Q\/N x y H Q):=by
 intro value l B s G H x y v u Q I e n q a;rcases q with q|q
 .exact h value l B s G H x y v u Q I e n q a
 .exact h' value l B s G H x y v u Q I e n q a
theorem zu(f:AU X r)(n:PE X a ta)(k:PE X b tb)(c:li b):PE X (.Subscript a b O) (DJ r ta tb):=by intro B s G H Q I h;exact Subscript_ (Fj n k I h λv u p x y H2 e m t q=>f a b B p G H2 x y v u Q e m t q (c _ _))
def KI(K:FG):R2:=λx y H Q=>∃p xs i v,x=.ref p/\y=.int i/\ie K H p xs/\atI xs i=some v/\Q v H
def KG(K:FG):R2:=λx y H Q=>∃p xs i v,x=.ref p/\y=.int i/\sS K H p xs/\atI xs i=some v/\Q v H
def KH:R2:=λx y H Q=>∃z i c,x=.str z/\y=.int i/\z.length≤sizeLine/\atI z.cps.toList i=some c/\Q (.str ⟨#[c]⟩) H
theorem rT:AU X (KI X.K):=by
 intro value c B s G H x y v u Q I P A h d;obtain⟨p,xs,i,a,rfl,rfl,K,S,q⟩:=h;cases P;obtain⟨t,rfl⟩:=A;obtain⟨n,r,l,E⟩:=I.list K;obtain⟨j,J,h2,C,g,o⟩:=sR S;obtain⟨w,b,k⟩:=r.get h2;have F:=r.length;have D:=jH;have f:EP X B G Q w s:=⟨a,H,I,k,q⟩;by_cases m:0≤i
 .have e:i.toNat=j:=by
   rw[seqIndex_of m o]at J;exact Option.some.inj J
  exact item_listR l.isList m (by lia) (by rw[e];simpa using b) f d
 .have e:(i+(n.toArray.size:Int)).toNat=j:=by
   rw[seqIndex_neg (by lia) g]at J;rw[List.size_toArray,<- F];exact Option.some.inj J
  exact subscriptTail_builtinR (x:=w) l.isList.typeIs slot_list_getitem.lookup
   (wpAny_getItem_list_neg (Q:=λr z=>r=w/\EP X B G Q r z) l.isList (by lia) (by rw[List.size_toArray]<;>lia) (by lia) (by rw[e];simpa using b) ⟨rfl,f⟩) d
theorem EQ:AU X (KG X.K):=by
 intro value l B s G H x y v u Q I o S h d;obtain⟨p,xs,i,a,rfl,rfl,m,b,q⟩:=h;cases o;obtain⟨t,rfl⟩:=S;obtain⟨g,r,n,C⟩:=I.tuple m;obtain⟨j,J,h2,F,K,P⟩:=sR b;obtain⟨w,k,e⟩:=r.get h2;have c:=r.length;have A:=jH;have f:EP X B G Q w s:=⟨a,H,I,e,q⟩;exact subscriptTail_builtinR (x:=w) n.typeIs kr.lookup
  (getItem_tuple (j:=j) (Q:=λr z=>r=w/\EP X B G Q r z) n (by lia) (by lia) (by rw[List.size_toArray,<- c];exact J) (by simpa using k) ⟨rfl,f⟩) d
theorem ER:AU X KH:=by
 intro value l B s G H x y v u Q I r p h m;obtain⟨z,i,c,rfl,rfl,g,f,q⟩:=h;obtain⟨t,rfl⟩:=r;obtain⟨o,rfl⟩:=p;obtain⟨j,J,h2,d,n,k⟩:=sR f;have b:z.cps.toList.length=z.length:=by simp[Str.length]
 rw[b]at J n k;have w:=jH;exact tail_any (typeIs_str s z t) slot_str_getitem.lookup (getItem_str (c:=c) (by have e:decide (i < -(2 ^ 63:Int))=false:=cn (by lia);have a:decide (i ≥ 2 ^ 63)=false:=cn (by lia);rw[e,a,Bool.or_false]) (by rw[J];simpa using h2) ⟨.str ⟨#[c]⟩,H,I.tok _,⟨_,rfl⟩,q⟩) m
theorem vo(i:LV)(n j:Nat)(u:Value):Obj.mapSeq (·.setIfInBounds j u) { cls:=.type "list",data:=.seq i.toArray n }={ cls:=.type "list",data:=.seq (i.set j u).toArray n }:=by simp[Obj.mapSeq]
theorem Inv.lst(I:Inv X B G H s)(h:H p=some (.lst xs)) :
  ∃(i:LV)(n:Nat),aM xs i/\s.heap.get? p=some { cls:=.type "list",data:=.seq i.toArray n }/\xs.length≤sizeLine:=by
 obtain⟨z,i,n,r,e⟩:=I.hok p _ h;exact⟨i,n,r,e,z⟩
theorem Inv.lstUpd{i:LV}(I:Inv X B G H s)(h:H p=some (.lst xs))
  (o:s.heap.get? p=some { cls:=.type "list",data:=.seq i.toArray n }) (a:f { cls:=.type "list",data:=.seq i.toArray n }={ cls:=.type "list",data:=.seq N.toArray n' }) (r:aM ys N) (z:ys.length≤sizeLine) (t:Nat) :
  Inv X B G (bW H p (.lst ys)) { s with heap:=s.heap.update p f,toks:=t }:=by
 have e:(s.heap.update p f).get? p=some { cls:=.type "list",data:=.seq N.toArray n' }:=by rw[qS f o (by rw[a]<;>rfl),a]
 refine I.write (x:=p) (e:=p) (by rw[h];trivial) (.inl rfl) (λb u k q=>(Heap.get?_update_other _ _ (Ne.symm k)).trans q) ⟨_,e⟩ ?_;exact⟨z,N,n',r,e⟩
def G':V->V->V->Hp->(Hp->Prop)->Prop:=λo i v H Q=>∃p xs k j,o=.ref p/\i=.int k/\H p=some (.lst xs)/\vw xs.length k=some j/\Q (bW H p (.lst (xs.set j v)))
theorem yZ:IU X G':=by
 intro B s G H o i v P K u Q I y g S h;obtain⟨p,xs,k,j,rfl,rfl,d,w,q⟩:=h;cases y;obtain⟨t,rfl⟩:=g;obtain⟨x,n,r,e,z⟩:=I.lst d;obtain⟨J,h2,c,m⟩:=wR w;have l:=r.length;have F:=jH;have f:Inv X B G (bW H p (.lst (xs.set j v))) { s with heap:=s.heap.update p (Obj.mapSeq (·.setIfInBounds j u)) }:=
  I.lstUpd d e (vo x n j u) (r.set S j) (by rw[dZ];exact z) s.toks
 by_cases b:0≤k
 .have a:k.toNat=j:=by
   rw[seqIndex_of b m]at J;exact Option.some.inj J
  exact PySem.W.ki_setAt e b (by lia) (by rw[List.size_toArray,<- l];exact m) (by rw[a];exact⟨_,f,q⟩)
 .have a:(k+(x.toArray.size:Int)).toNat=j:=by
   rw[seqIndex_neg (by lia) c]at J;rw[List.size_toArray,<- l];exact Option.some.inj J
  exact PySem.W.ki_setBack e (by lia) (by rw[List.size_toArray,<- l];exact c) (by lia) (by rw[a];exact⟨_,f,q⟩)
theorem rg(I q:Option Int)(n:Nat):(sliceBounds I q none n).1=((HT.eM n 0 I:Nat):Int)/\(sliceBounds I q none n).2.1=((HT.eM n n q:Nat):Int)/\(sliceBounds I q none n).2.2=1:=by
 refine⟨?_,?_,rfl⟩
 .cases I with
  |none=>simp[sliceBounds,HT.eM]
  |some i=>
   simp only[sliceBounds,HT.eM,Option.getD_none,show(1:Int) > 0 by decide,iR];by_cases h:i < 0
   .simp only[h,iR]<;>lia
   .simp only[h,jq]<;>lia
 .cases q with
  |none=>simp[sliceBounds,HT.eM]
  |some i=>
   simp only[sliceBounds,HT.eM,Option.getD_none,show(1:Int) > 0 by decide,iR];by_cases h:i < 0
   .simp only[h,iR]<;>lia
   .simp only[h,jq]<;>lia
theorem o1(i:LV)(I q:Option Int):slicePick i.toArray I q none=((i.drop (HT.eM i.length 0 I)).take (HT.eM i.length i.length q-HT.eM i.length 0 I)).toArray:=by obtain⟨J,h2,h⟩:=rg I q i.toArray.size;unfold slicePick;rw[J,h2,h];simp only[sliceRange_one,pick_run,List.size_toArray]<;>rfl
def KC(K:FG):V->Option Int->Option Int->Hp->VK->Prop:=λx I q H Q=>∃a xs,x=.ref a/\ie K H a xs/\∀p,H p=none->Q (.ref p) (bW H p (.lst (uu xs I q)))
theorem Bo:Dc X (KC X.K):=by intro B s G H x v w g I q d Q e c k p u h;obtain⟨a,xs,rfl,f,n⟩:=h;cases c;obtain⟨i,r,t,z⟩:=e.list f;have l:=r.length;refine⟨"list",_,slot_list_getitem.lookup,t.isList.typeIs,?_⟩;refine wpAny_getItem_list_slice t.isList k p u .none (by simp) ?_ (by rw[List.size_toArray]<;>lia);rw[o1,<- l];refine⟨.ref s.heap.objs.size,_,e.laid (t':=s.toks) (o:=.lst (uu xs I q)) (λb m n=>Heap.get?_push_of_some _ n) (Nat.le_refl _) ?_,rfl,n _ (e.hok.fresh (Nat.le_refl _))⟩;exact⟨aU (mB xs I q) z,_,0,(r.drop (HT.eM xs.length 0 I)).take (HT.eM xs.length xs.length q-HT.eM xs.length 0 I),Heap.get?_push_size _ rfl⟩
theorem sO:dU X (.builtin "len") (λxs H Q=>∃p ys,xs=[.ref p]/\(ie X.K H p ys\/sS X.K H p ys)/\Q (.int ys.length) H):=by
 intro B s G H xs Y Q I r h;obtain⟨p,ys,rfl,x,q⟩:=h;obtain⟨u,rfl,n⟩:=vals1 r;cases n;have k:=jH;rcases x with x|x
 .obtain⟨i,e,a,z⟩:=I.list x;have l:=e.length;exact Calls.call_len_list a.isList (by simp only[List.size_toArray]<;>lia) ⟨.int ys.length,H,I.tok _,⟨s.toks+1,by rw[List.size_toArray,l]⟩,q⟩
 .obtain⟨i,e,a,z⟩:=I.tuple x;have l:=e.length;exact len_tuple a (by simp only[List.size_toArray]<;>lia) ⟨.int ys.length,H,I.tok _,⟨s.toks+1,by rw[List.size_toArray,l]⟩,q⟩
theorem sN:dU X (.builtin "len") (λxs H Q=>∃z,xs=[.str z]/\z.length≤sizeLine/\Q (.int z.length) H):=by intro B s G H xs Y Q I r h;obtain⟨z,rfl,x,q⟩:=h;obtain⟨u,rfl,t,rfl⟩:=vals1 r;have n:=jH;exact len_str (by lia) ⟨.int z.length,H,I.tok _,⟨_,rfl⟩,q⟩
theorem dU.or(h:dU X f r)(h':dU X f N):dU X f (λxs H Q=>r xs H Q\/N xs H Q):=by
 intro B s G H xs Y Q I x q;rcases q with q|q
 .exact h B s G H xs Y Q I x q
 .exact h' B s G H xs Y Q I x q
theorem i6:dU X (.type "list") (λxs H Q=>∃p ys,xs=[.ref p]/\(ie X.K H p ys\/sS X.K H p ys)/\∀l,H l=none->Q (.ref l) (bW H l (.lst ys))):=by
 intro B s G H xs Y Q I r h;obtain⟨p,ys,rfl,k,q⟩:=h;obtain⟨u,rfl,w⟩:=vals1 r;cases w;have f:∀(i:LV),aM ys i->ys.length≤sizeLine->∀(h':Heap)(c:Nat),(∀b o',s.heap.get? b=some o'->h'.get? b=some o') ->
   h'.get? s.heap.objs.size=some { cls:=.type "list",dict:=none,data:=.seq i.toArray c,slots:=#[] }->EP X B G Q (.ref s.heap.objs.size) { s with heap:=h' }:=λi x z h' c m e=>
  ⟨.ref s.heap.objs.size,_,I.laid (t':=s.toks) m (Nat.le_refl _) (show cf X.prog X.w _ h' _ (.lst ys) from ⟨z,i,c,x,e⟩),rfl,q _ (I.hok.fresh (Nat.le_refl _))⟩
 rcases k with k|k
 .obtain⟨i,x,d,z⟩:=I.list k;have a:=x.length;obtain⟨o,v,t,n,hd⟩:=d.isList;exact call_list_seq p (.inl rfl) v t hd (λh' c m e=>f i x z h' c m e) (by simp only[List.size_toArray]<;>lia)
 .obtain⟨i,x,d,z⟩:=I.tuple k;have a:=x.length;obtain⟨o,v,t,n,hd⟩:=d;exact call_list_seq p (.inr rfl) v t hd (λh' c m e=>f i x z h' c m e) (by simp only[List.size_toArray]<;>lia)
theorem kg:dU X (.type "tuple") (λxs H Q=>∃p ys,xs=[.ref p]/\((ie X.K H p ys/\∀l,H l=none->Q (.ref l) (bW H l (.tup ys)))\/(sS X.K H p ys/\Q (.ref p) H))):=by
 intro B s G H xs Y Q I r h;obtain⟨p,ys,rfl,h⟩:=h;obtain⟨u,rfl,t⟩:=vals1 r;cases t;rcases h with ⟨x,q⟩|⟨x,q⟩
 .obtain⟨i,n,a,z⟩:=I.list x;have f:=n.length;refine call_tuple_list a.isList (λh' m=>?_) (by simp only[List.size_toArray]<;>lia);have k:Inv X B G H { s with heap:=h' }:=I.kept (t':=s.toks) m;have c:Inv X B G (bW H h'.objs.size (.tup ys)) { s with heap:=h'.push { cls:=.type "tuple",data:=.seq i.toArray } }:=
   k.laid (t':=s.toks) (λb o e=>Heap.get?_push_of_some _ e) (Nat.le_refl _) (show cf X.prog X.w _ _ _ (.tup ys) from ⟨z,i,n,mU.new _ _⟩)
  exact⟨.ref h'.objs.size,_,c,rfl,q _ (k.hok.fresh (Nat.le_refl _))⟩
 .obtain⟨i,n,a,z⟩:=I.tuple x;exact call_tuple_same a ⟨.ref p,H,I,rfl,q⟩
def Lz(K:FG)(T:String)(x:V)(H:Hp):Prop:=match x with
 | .str _=>T="str"
 | .int _=>T="int"
 | .ref p=>(T="list"/\∃xs,ie K H p xs)\/(T="tuple"/\∃o,K.lookup p=some o/\o.cls=.type "tuple"/\o.dict=none) \/
   (T="dict"/\((∃j,H p=some (.dK j))\/∃j,H p=some (.dT j)))\/(T="set"/\∃S n,H p=some (.set S n))
 |_=>False
theorem DB(I:Inv X B G H s)(r:RelV x v)(ty:Lz X.K T x H) :
  s.TypeIs v T/\∀a,v=.ref a->∃b,s.heap.get? a=some b/\b.dict=none:=by
 cases x with
 |str z=>obtain⟨t,rfl⟩:=r;cases (show T="str" from ty);exact⟨typeIs_str s z t,λ_ e=>nomatch e⟩
 |int i=>obtain⟨t,rfl⟩:=r;cases (show T="int" from ty);exact⟨typeIs_int s i t,λ_ e=>nomatch e⟩
 |ref p=>
  cases r;rcases ty with ⟨rfl,xs,q⟩|⟨rfl,o,h,f,hd⟩|⟨rfl,h⟩|⟨rfl,S,n,h⟩
  .obtain⟨m,_,l,_⟩:=I.list q;refine⟨l.isList.typeIs,λa e=>?_⟩;cases e;obtain⟨o,n,e,c,hd,_⟩:=l;exact⟨o,e,hd⟩
  .refine⟨⟨o,I.kIn p o h,f⟩,λa e=>?_⟩;cases e;exact⟨o,I.kIn _ o h,hd⟩
  .have z:∃o,s.heap.get? p=some o/\o.ExactDict:=by
    rcases h with ⟨j,h⟩|⟨j,h⟩
    .obtain⟨_,_,_,_,o,_,_,e,ex,_⟩:=I.hok p _ h;exact⟨o,e,ex⟩
    .obtain⟨_,_,_,_,o,_,_,e,ex,_⟩:=I.hok p _ h;exact⟨o,e,ex⟩
   obtain⟨o,e,ex⟩:=z;refine⟨⟨o,e,ex.1⟩,λa k=>?_⟩;cases k;exact⟨o,e,ex.2.1⟩
  .obtain⟨o,_,_,_,e,ex,_⟩:=I.hok p _ h;refine⟨⟨o,e,ex.1⟩,λa k=>?_⟩;cases k;exact⟨o,e,ex.2.1⟩
 |_=>exact False.elim ty
noncomputable def Mo(K:FG)(T:String)(r:V->List V->Hp->VK->Prop)(to:TE)(t:TA):TE:=λG H Q=>to G H λx U=>Lz K T x U/\t G U λxs H2=>r x xs H2 Q
variable{o e:Expr}{es:Ab}{to:TE}{t:TA}{name:Str}{apos cpos:Pos}{T id:String}{r:V->List V->Hp->VK->Prop}
theorem CM(w:PlainAttrs T)(slot:Slot T name id)(y:typeOf (.builtin id)=pure (.type "method_descriptor"))(m:M4 X id r)(q:PE X o to)(c:PA X (e::es) t)
  (b:attributeBase o name X.env (eval o X.env)=eval o X.env:=by rfl)
  (f:((backTo cpos (starEach (e::es) X.env)).all (fun x=>!x.1) && (backToKw cpos (keywordEach [] X.env)).all (fun x=>x.1.isSome)
   && decide ((e::es).length+([]:List Keyword).length+(if ([]:List Keyword).isEmpty then 0 else 1) < 30))=true:=by rfl)
  (l:(apos.endLine == cpos.line)=true:=by rfl) (d:starEach (e::es) X.env=(false,eval e X.env)::starEach es X.env:=by rfl) (p:(backTo cpos (starEach es X.env)).any (·.1)=false:=by rfl) :
  PE X (.Call (.Attribute o name apos) (e::es) [] cpos) (Mo X.K T r to t):=by
 intro B s G H Q I h;refine wpAny_Call_method_late b f l rfl (cV (q B s G H _ I h) λv j z=>?_);obtain⟨x,U,a,n,ty,u⟩:=z;obtain⟨J,h2⟩:=DB a n ty;refine⟨T,id,w,slot,y,J,h2,?_⟩;have A:=c cpos B j G U _ a u;rw[d]at A ⊢;refine Calls.callWith_builtin (by show(false ||(backTo cpos (starEach es X.env)).any (·.1))=false;rw[p]<;>rfl) (Calls.evalArgs_plain ?_);exact cV A λY S z=>by obtain⟨F,H2,k,i,g⟩:=z;exact m B S G H2 x F v Y Q k n i g
end
def L8(X:Cx)(id:String)(r:V->List V->Hp->VK->Prop):Prop:=
 ∀(B:PN)(s:Shared)(G:St)(H:Hp)(x:V)(xs:List V)(v:Value)(Y:LV)(Q:VK),Inv X B G H s->RelV x v->aM xs Y->r x xs H Q ->
  wpAny (model X.prog X.w) X.A (call (.builtin id) (v::Y)) (EP X B G Q) X.xe s
theorem aM.one:∀{x:V}{Y:LV},aM [x] Y->∃u,Y=[u]/\RelV x u
 |_,_,.cons r .nil=>⟨_,rfl,r⟩
theorem aM.rep(h:aM xs Y):∀k:Nat,aM (List.replicate k xs).flatten (List.replicate k Y).flatten
 |0=>.nil
 |k+1=>by rw[gh,gh,lw,lw];exact aM.append h (aM.rep h k)
theorem foldl_rep(i:LV):∀(k:Nat)(a:LV),
  List.foldl (λx s=>x++s) a.toArray (List.replicate k i.toArray)=(a++(List.replicate k i).flatten).toArray
 |0,a=>by simp
 |k+1,a=>by
  have e:a.toArray++i.toArray=(a++i).toArray:=by simp
  have h:(a++i)++(List.replicate k i).flatten=a++(List.replicate (k+1) i).flatten:=by rw[gh,lw,List.append_assoc]
  rw[<- h,<- foldl_rep i k (a++i),<- e,gh,iM]
section
variable{X:Cx}{B:PN}{G:St}{H:Hp}{s:Shared}{l b:Addr}{xs ys zs:List V}
theorem Inv.lset{i:LV}{t:Nat}(I:Inv X B G H s)(h:H l=some (.lst xs))
  (e:s.heap.get? l=some { cls:=.type "list",data:=.seq i.toArray n }) (a:f i.toArray=N.toArray) (v:aM ys N) (z:ys.length≤sizeLine) :
  Inv X B G (bW H l (.lst ys)) { s with heap:=s.heap.update l (Obj.mapSeq f),toks:=t }:=by
 have q:=PySem.IsL.update e f;rw[a]at q;refine I.write (x:=l) (e:=l) (by rw[h];exact trivial) (.inl rfl) (λc u b k=>(Heap.get?_update_other s.heap (Obj.mapSeq f) (Ne.symm b)).trans k) ⟨_,q⟩ ?_;exact⟨z,N,_,v,q⟩
theorem Inv.lnew{t:Nat}(I:Inv X B G H s)(h:aM ys N)(z:ys.length≤sizeLine) :
  Inv X B G (bW H s.heap.objs.size (.lst ys)) { s with heap:=s.heap.push { cls:=.type "list",data:=.seq N.toArray },toks:=t }:=
 I.laid (λ_ _ q=>Heap.get?_push_of_some _ q) (Nat.le_refl _) ⟨z,N,0,h,Heap.get?_push_size _ rfl⟩
theorem Inv.fresh(I:Inv X B G H s):H s.heap.objs.size=none:=I.hok.fresh (Nat.le_refl _)
theorem Inv.lstM(I:Inv X B G H s)(h:H l=some (.lst xs)):xs.length≤sizeLine/\∃(i:LV)(n:Nat),aM xs i/\xs.length=i.length/\s.heap.get? l=some { cls:=.type "list",data:=.seq i.toArray n }:=by obtain⟨z,i,n,r,e⟩:=I.hok l _ h;exact⟨z,i,n,r,r.length,e⟩
theorem tH(h:n≤sizeLine):Builtin.List.listTooLong n=false:=by unfold Builtin.List.listTooLong;exact cn (by lia)
end
section
variable{X:Cx}
def Bw:V->List V->Hp->VK->Prop:=λx v H Q=>∃l xs y,x=.ref l/\v=[y]/\H l=some (.lst xs)/\xs.length < sizeLine/\Q .non (bW H l (.lst (xs++[y])))
theorem pW:L8 X "list.append" Bw:=by intro B s G H x t v Y Q I b f h;obtain⟨l,xs,y,rfl,rfl,a,m,q⟩:=h;cases b;obtain⟨u,rfl,k⟩:=f.one;obtain⟨z,i,n,r,c,e⟩:=I.lstM a;refine call_meets F.slot_list_append ⟨_,e,rfl⟩ F.entry_list_append (F.args_list_append_2 _ _) (PySem.list_append l i.toArray n u (by rw[List.size_toArray];lia)) ⟨e,?_⟩;refine⟨.non,_,I.lset (N:=i++[u]) a e (by simp) (r.append (.cons k .nil)) ?_,rfl,q⟩;rw[b_,List.length_singleton];lia
def Bv:V->List V->Hp->VK->Prop:=λx v H Q=>∃l b xs zs,x=.ref l/\v=[.ref b]/\H l=some (.lst xs)/\H b=some (.lst zs)/\xs.length+zs.length≤sizeLine/\Q .non (bW H l (.lst (xs++zs)))
theorem xL:L8 X "list.extend" Bv:=by
 intro B s G H x K v Y Q I j g h;obtain⟨l,b,xs,zs,rfl,rfl,k,c,S,q⟩:=h;cases j;obtain⟨u,rfl,w⟩:=g.one;cases w;obtain⟨z,t,n,r,y,e⟩:=I.lstM k;obtain⟨P,i,p,d,m,f⟩:=I.lstM c;have a:t.toArray.size+i.toArray.size≤sizeLine:=by rw[List.size_toArray,List.size_toArray];lia
 have o:¬(!t.toArray.isEmpty && Builtin.List.listTooLong (t.toArray.size+i.toArray.size))=true:=by rw[tH a,Bool.and_false];exact b9
 refine call_meets F.slot_list_extend ⟨_,e,rfl⟩ F.entry_list_extend (F.args_list_extend_2 _ _)
  (AutoSeq1.list_extend_list_list_0 l t.toArray n b i.toArray p o (by rw[List.size_toArray];lia) (by lia)) ⟨e,f,?_⟩
 refine⟨.non,_,I.lset (N:=t++i) k e (by simp) (r.append d) ?_,rfl,q⟩;rw[b_];lia
def KJ:R2:=λx y H Q=>∃l b xs zs,x=.ref l/\y=.ref b/\H l=some (.lst xs)/\H b=some (.lst zs)/\xs.length+zs.length≤sizeLine/\∀p,H p=none->Q (.ref p) (bW H p (.lst (xs++zs)))
theorem Ee:iI X (binaryOp .Add) KJ:=by
 intro B s G H x y v u Q I d w h;obtain⟨l,b,xs,zs,rfl,rfl,c,f,j,q⟩:=h;cases d;cases w;obtain⟨z,t,n,r,g,e⟩:=I.lstM c;obtain⟨S,i,o,p,m,a⟩:=I.lstM f;refine PySem.P.add_list e a ?_ (by rw[List.size_toArray,List.size_toArray];lia);have k:t.toArray++i.toArray=(t++i).toArray:=by simp
 rw[k];exact⟨.ref _,_,I.lnew (t:=s.toks) (r.append p) (by rw[b_];lia),rfl,q _ I.fresh⟩
def KD:R2:=λx y H Q=>∃l k xs,x=.ref l/\y=.int k/\H l=some (.lst xs)/\-(2 ^ 63)≤k/\k < 2 ^ 63/\xs.length * k.toNat≤sizeLine /\
 ∀p,H p=none->Q (.ref p) (bW H p (.lst (List.replicate k.toNat xs).flatten))
theorem BY(xs:List α)(k:Nat):(List.replicate k xs).flatten.length=k * xs.length:=by
 induction k with
 |zero=>simp
 |succ k i=>rw[gh,lw,b_,i,Nat.succ_mul,Nat.add_comm]
theorem Ea:iI X (binaryOp .Mult) KD:=by
 intro B s G H x y v u Q I A C h;obtain⟨l,k,xs,rfl,rfl,K,J,h2,j,q⟩:=h;cases A;obtain⟨t,rfl⟩:=C;obtain⟨f,i,n,r,P,e⟩:=I.lstM K;have p:i.toArray.size * k.toNat≤sizeLine:=by rw[List.size_toArray,<- P];exact j
 have c:¬i.toArray.size * k.toNat > (2 ^ 63-1) / 8:=by
  have:(sizeLine:Nat)≤(2 ^ 63-1) / 8:=by decide
  lia
 have b:¬(!Builtin.List.listFitsIndex k)=true:=by rw[fitsIndex_both J h2];exact b9
 have o:¬Builtin.List.listTooLong (i.toArray.size * k.toNat)=true:=by rw[tH p];exact b9
 have w:List.foldl (λd g=>d++g) #[] (List.replicate (if i.toArray.isEmpty=true then 0 else k.toNat) i.toArray)=(List.replicate k.toNat i).flatten.toArray:=by
  have S:∀m:Nat,List.foldl (λd g=>d++g) #[] (List.replicate m i.toArray)=(List.replicate m i).flatten.toArray:=λm=>by have:=foldl_rep i m [];rw[ij]at this;exact this
  rw[S];cases i with
  |nil=>simp
  |cons a D=>rw[if_neg (by simp)]
 refine wpAny_binaryOp_repeat_ref (T:="list") (U:="int") (by decide) ⟨_,e,rfl⟩ (λz=>typeIs_int z k t) noFill_list_mul F.fills_int_mul F.slot_int_rmul repeat_list F.slot_int_index.lookup
  (call_meets F.slot_int_rmul (typeIs_int s k t) F.entry_int_rmul (F.args_int_rmul_2 _ _) (int___rmul___int_list k t l i.toArray n)
   ⟨e,rfl,⟨_,e,rfl⟩,call_meets F.slot_list_mul ⟨_,e,rfl⟩ F.entry_list_mul (F.args_list_mul_2 _ _) (AutoListH.list___mul___list_int_3 l i.toArray n k t b c o) ⟨e,?_⟩⟩)
 rw[w];exact⟨.ref _,_,I.lnew (t:=s.toks) (r.rep k.toNat) (by rw[BY,Nat.mul_comm];exact j),rfl,q _ I.fresh⟩
end
section
variable{κ:Type}[DecidableEq κ]
noncomputable def fY(j:List (κ×V))(k:κ):Option V:=(j.find? λv=>decide (v.1=k)).map (·.2)
noncomputable def putK(j:List (κ×V))(k:κ)(v:V):List (κ×V):=
 if (j.any λh=>decide (h.1=k))=true then j.map (λh=>if h.1=k then (h.1,v) else h) else j++[(k,v)]
noncomputable def L5(j:List (κ×V))(k:κ):List (κ×V):=j.filter λv=>decide (v.1≠k)
theorem gO{p:κ×V}{r:List (κ×V)}{k:κ}(e:p.1=k):fY (p::r) k=some p.2:=by simp[fY,iL,e]
theorem fX{p:κ×V}{r:List (κ×V)}{k:κ}(e:¬p.1=k):fY (p::r) k=fY r k:=by simp[fY,iL,e]
theorem tf(k:κ):∀j:List (κ×V),(j.any λv=>decide (v.1=k))=(fY j k).isSome
 | []=>rfl
 |p::r=>by
  rw[ig];by_cases e:p.1=k
  .simp only[gO e,ju e,Bool.true_or,Option.isSome_some]
  .rw [fX e,cn e,Bool.false_or];exact tf k r
theorem jI(j:List (κ×V))(k:κ)(v:V):(putK j k v).length≤j.length+1:=by
 unfold putK;split
 .rw [a7];lia
 .rw [b_,bt,List.length_nil];lia
theorem jj.isSome_eq(r:jj o u):o.isSome=u.isSome:=by
 cases o with
 |none=>cases u with
  |none=>rfl
  |some _=>exact(show False from r).elim
 |some _=>cases u with
  |none=>exact(show False from r).elim
  |some _=>rfl
theorem jj.getD(r:jj o u)(h:RelV d N):RelV (o.getD d) (u.getD N):=by
 cases o with
 |none=>cases u with
  |none=>exact h
  |some _=>exact(show False from r).elim
 |some _=>cases u with
  |none=>exact(show False from r).elim
  |some _=>exact r
theorem KV.val{j:List (κ×V)}{v:List (κ×Value)}(r:KV j v)(k:κ):jj (fY j k) (valueAt v k):=by
 unfold KV at r;induction r with
 |nil=>exact True.intro
 | @cons p q ps qs h t i=>
  obtain⟨J,h2⟩:=h;by_cases e:p.1=k
  .have x:q.1=k:=J.symm.trans e;have b:valueAt (q::qs) k=some q.2:=by simp[valueAt,iL,x]
   rw[gO e,b];exact h2
  .have x:¬q.1=k:=λz=>e (J.trans z);have b:valueAt (q::qs) k=valueAt qs k:=by simp[valueAt,iL,x]
   rw[fX e,b];exact i
theorem KV.any(r:KV j N)(k:κ):(j.any λv=>decide (v.1=k))=N.any λv=>decide (v.1=k):=by
 unfold KV at r;induction r with
 |nil=>rfl
 |cons h t i=>rw[ig,ig,i,h.1]
theorem KV.repl(r:KV j N)(k:κ)(x:RelV y u) :
  KV (j.map λv=>if v.1=k then (v.1,y) else v) (N.map λv=>if v.1=k then (v.1,u) else v):=by
 unfold KV at r ⊢;induction r with
 |nil=>exact .nil
 | @cons p q ps qs h t i=>
  rw[List.map_cons,List.map_cons];refine .cons ?_ i;obtain⟨J,h2⟩:=h;by_cases e:p.1=k
  .rw [if_pos e,if_pos (J.symm.trans e)];exact⟨J,x⟩
  .rw [if_neg e,if_neg (λz=>e (J.trans z))];exact⟨J,h2⟩
theorem KV.put(r:KV j N)(k:κ)(h:RelV y u):KV (putK j k y) (stored N k u):=by
 unfold putK stored;rw[r.any k];by_cases e:(N.any λv=>decide (v.1=k))=true
 .rw [if_pos e,if_pos e];exact r.repl k h
 .rw [if_neg e,if_neg e];exact Paired.snoc r ⟨rfl,h⟩
theorem KV.length(r:KV j N):j.length=N.length:=Paired.length r
end
variable{w:World}{u:Value}
theorem mj(r:RelV (kV k) u):(bH P w).is k u=true:=by
 cases k with
 |inl i=>obtain⟨t,e⟩:=(show ∃t,u=Value.int i t from r);subst e;exact tP P w i t
 |inr x=>obtain⟨t,e⟩:=(show ∃t,u=Value.str x t from r);subst e;exact tN P w x t
theorem p9:∀{ks:List bz}{Y:LV},aM (ks.map kV) Y->ItemsAre (bH P w) ks Y
 | [],_,r=>by rw[iJ]at r;cases r;exact .nil
 |k::ks,_,r=>by
  rw[List.map_cons]at r;cases r with
  |cons h t=>exact .cons (mj h) (p9 t)
abbrev KT(H:Hp):List (List bz×V)->List (List bz×Addr×Value)->Prop:=Paired λp q=>p.1=q.1/\H q.2.1=some (.tup (p.1.map kV))/\RelV p.2 q.2.2
theorem KT.val{H:Hp}{j:List (List bz×V)}{xs:List (List bz×Addr×Value)}(r:KT H j xs)(k:List bz):jj (fY j k) ((atKey xs k).map (·.2)):=by
 induction r with
 |nil=>exact True.intro
 | @cons p q ps qs h t i=>
  obtain⟨J,_,h2⟩:=h;by_cases e:p.1=k
  .have x:q.1=k:=J.symm.trans e;have b:atKey (q::qs) k=some q.2:=by simp[atKey,iL,x]
   rw[gO e,b];exact h2
  .have x:¬q.1=k:=λz=>e (J.trans z);have b:atKey (q::qs) k=atKey qs k:=by simp[atKey,iL,x]
   rw[fX e,b];exact i
variable{H:Hp}{j:List (List bz×V)}{xs:List (List bz×Addr×Value)}{y:V}
theorem KT.repl(r:KT H j xs)(k:List bz)(a:RelV y u) :
  KT H (j.map λv=>if v.1=k then (v.1,y) else v) (xs.map (putAt k u)):=by
 induction r with
 |nil=>exact .nil
 | @cons p q ps qs h t i=>
  rw[List.map_cons,List.map_cons];refine .cons ?_ i;obtain⟨J,h2,x⟩:=h;unfold putAt;by_cases e:p.1=k
  .rw [if_pos e,if_pos (J.symm.trans e)];exact⟨J,h2,a⟩
  .rw [if_neg e,if_neg (λz=>e (J.trans z))];exact⟨J,h2,x⟩
theorem KT.put(r:KT H j xs)(k:List bz)(x:H b=some (.tup (k.map kV)))(h:RelV y u) :
  KT H (putK j k y) (storedH xs k b u):=by
 have e:(j.any λv=>decide (v.1=k))=(atKey xs k).isSome:=by rw[tf,(r.val k).isSome_eq,Option.isSome_map]
 unfold putK storedH;rw[e];by_cases q:(atKey xs k).isSome=true
 .rw [if_pos q,if_pos q];exact r.repl k h
 .rw [if_neg q,if_neg q];exact Paired.snoc r ⟨rfl,x,h⟩
theorem KT.keeps(r:KT H j xs)(h:∀b ys,H b=some (.tup ys)->H' b=some (.tup ys)):KT H' j xs:=
 Paired.mapP r λ_ _ z=>⟨z.1,h _ _ z.2.1,z.2.2⟩
section
variable{P:Program}{w:World}{H:Hp}{h:Heap}{a:Addr}
theorem CK{u:HO}(ok:jk P w H h)(e:Rd H a u):cf P w H h a u:=e.ok ok
theorem qd{j:List (bz×V)}(ok:jk P w H h)(e:Rd H a (.dK j)):j.length≤sizeLine/\(a == sysModules)=false/\∃v,KV j v/\h.DictOf (bH P w) a v:=
 show cf P w H h a (.dK j) from CK ok e
theorem w1{j:List (bz×V)}(ok:jk P w H h)(e:H a=some (.dK j)):j.length≤sizeLine/\(a == sysModules)=false/\∃v,KV j v/\h.DictOf (bH P w) a v:=qd ok (.inl e)
theorem lN(ok:jk P w H h)(e:H a=some (.tup (ks.map kV))):(tupleKind (bH P w)).is h ks a:=by obtain⟨_,i,r,o,J,⟨h2,n,x⟩,_⟩:=(show cf P w H h a (.tup (ks.map kV)) from ok a _ e);exact⟨o,i.toArray,n,J,h2,x,by simpa using p9 r⟩
theorem qc(ok:jk P w H h)(e:Rd H a (.dT j)):j.length≤sizeLine/\(a == sysModules)=false /\
  ∃xs,KT H j xs/\h.DictOfH (tupleKind (bH P w)) a xs:=by
 obtain⟨z,y,xs,r,o,es,k,J,h2,f,b,c⟩:=(show cf P w H h a (.dT j) from CK ok e);refine⟨z,y,xs,r,o,es,k,J,h2,f,b,λx s=>?_,c⟩;have all:∀{l:List (List bz×V)}{m:List (List bz×Addr×Value)},KT H l m->∀x ∈ m,(tupleKind (bH P w)).is h x.1 x.2.1:=by
  intro l m q;induction q with
  |nil=>intro x s;exact nomatch s
  | @cons p q ps qs n t i=>
   intro x s;rcases ba.mp s with e|s
   .subst e;exact lN ok (by rw[<- n.1];exact n.2.1)
   .exact i x s
 exact all r x s
theorem Iu(ok:jk P w H h)(e:H a=some (.dT j)):j.length≤sizeLine/\(a == sysModules)=false /\
  ∃xs,KT H j xs/\h.DictOfH (tupleKind (bH P w)) a xs:=qc ok (.inl e)
end
def ja(H:Hp)(a:Addr)(y:V)(r:Option V):Prop:=
 (∃j k,Rd H a (.dK j)/\y=kV k/\r=fY j k)\/∃j k b,Rd H a (.dT j)/\y=.ref b/\H b=some (.tup (k.map kV))/\r=fY j k
def uL(H:Hp)(a:Addr)(y v:V)(H':Hp):Prop:=
 (∃j k,H a=some (.dK j)/\y=kV k/\j.length < sizeLine/\H'=bW H a (.dK (putK j k v))) \/
 ∃j k b,H a=some (.dT j)/\y=.ref b/\H b=some (.tup (k.map kV))/\j.length < sizeLine/\H'=bW H a (.dT (putK j k v))
theorem ja.k{H:Hp}{a:Addr}{j:List (bz×V)}{k:bz}(e:H a=some (.dK j)):ja H a (kV k) (fY j k):=.inl ⟨j,k,.inl e,rfl,rfl⟩
theorem ja.t{H:Hp}{a b:Addr}{j:List (List bz×V)}{k:List bz}(e:H a=some (.dT j))(h:H b=some (.tup (k.map kV))):ja H a (.ref b) (fY j k):=.inr ⟨j,k,b,.inl e,rfl,h,rfl⟩
theorem uL.k{H:Hp}{a:Addr}{j:List (bz×V)}{k:bz}{v:V}(e:H a=some (.dK j))(h:j.length < sizeLine):uL H a (kV k) v (bW H a (.dK (putK j k v))):=.inl ⟨j,k,e,rfl,h,rfl⟩
theorem uL.t{H:Hp}{a b:Addr}{j:List (List bz×V)}{k:List bz}{v:V}(e:H a=some (.dT j))(h:H b=some (.tup (k.map kV)))(l:j.length < sizeLine) :
  uL H a (.ref b) v (bW H a (.dT (putK j k v))):=.inr ⟨j,k,b,e,rfl,h,l,rfl⟩
section
variable{X:Cx}{B:PN}{G:St}{H:Hp}{s:Shared}{a:Addr}{y v:V}{u r:Value}{o:Option V}{A:Around}{E:VP}
theorem Inv.big(I:Inv X B G H s):sysModules < s.heap.objs.size:=by have h:mainGlobals < s.heap.objs.size:=(I.mod.glob.keeps I.bk).lt;exact lu (by decide) h
theorem qf(i:A.units+1 < cLine)(I:Inv X B G H s)(g:ja H a y (some v))(m:RelV y u)(h:∀n z,Inv X B G H z->RelV v n->Q n z) :
  wpAny (model X.prog X.w) A (getItem (.ref a) u) Q E s:=by
 rcases g with ⟨j,k,e,f,l⟩|⟨j,k,b,e,f,t,l⟩
 .subst f;obtain⟨x,hd,S,r,d⟩:=qd I.hok e;obtain⟨n,hw,w⟩:=jj.some_of (v:=v) (o:=valueAt S k) (by rw[l];exact r.val k);exact wpAny_getItem_of (mj m) d.mapOf hw (h n _ (I.tok _) w)
 .subst f;cases (show u=Value.ref b from m);obtain⟨x,hd,xs,r,d⟩:=qc I.hok e;obtain⟨n,hw,w⟩:=jj.some_of (v:=v) (o:=(atKey xs k).map (·.2)) (by rw[l];exact r.val k);obtain⟨p,q,c⟩:=fu.mp hw;refine wpAny_getItem_heap (nw i) (lN I.hok t) d q ?_;rw[c];exact h n _ (I.tok _) w
theorem Ld(m:A.units+1 < cLine)(I:Inv X B G H s)(g:ja H a y o)(f:RelV y u)(h:∀z,Inv X B G H z->Q (.bool o.isSome) z) :
  wpAny (model X.prog X.w) A (compareOp .In u (.ref a)) Q E s:=by
 rcases g with ⟨j,k,e,n,l⟩|⟨j,k,b,e,n,c,l⟩
 .subst n;obtain⟨x,hd,v,r,d⟩:=qd I.hok e;refine wpAny_in_of (mj f) hd d.mapOf ?_;rw[<- (r.val k).isSome_eq,<- l];exact h _ (I.tok _)
 .subst n;cases (show u=Value.ref b from f);obtain⟨x,hd,xs,r,d⟩:=qc I.hok e;refine wpAny_in_heap (nw m) (lN I.hok c) hd d ?_;have q:=(r.val k).isSome_eq;rw[Option.isSome_map]at q;rw[<- q,<- l];exact h _ (I.tok _)
theorem sm{t:Nat}(I:Inv X B G H s)(m:IZ (H a))(f:Heap.SameBut a s.heap h')(k:∃q,h'.get? a=some q)(n:cf X.prog X.w (bW H a N) h' a N) :
  Inv X B G (bW H a N) { s with heap:=h',toks:=t }:=
 I.write (x:=a) (e:=a) m (.inl rfl) (λb q h z=>(f.2 b h).trans z) k n
theorem Ay{P:Program}{w:World}{H':Hp}{h':Heap}{j:List (bz×V)}{v:List (bz×Value)}(z:j.length≤sizeLine)(hd:(a == sysModules)=false)(r:KV j v)(d:h'.DictOf (bH P w) a v) :
  cf P w H' h' a (.dK j):=⟨z,hd,v,r,d⟩
theorem yb{H':Hp}{Q:Unit->Shared->Prop}(N:A.units+1 < cLine)(I:Inv X B G H s)(g:uL H a y v H')(P:RelV y u)(K:RelV v r)(h:∀z,Inv X B G H' z->Q () z) :
  wpAny (model X.prog X.w) A (setItem (.ref a) u r) Q E s:=by
 rcases g with ⟨j,k,e,p,l,t⟩|⟨j,k,b,e,p,S,l,t⟩
 .subst p t;obtain⟨x,hd,O,n,m⟩:=w1 I.hok e;have o:O.length≤sizeLine:=by rw[<- n.length];exact x
  have w:(putK j k v).length≤sizeLine:=by have:=jI j k v;lia
  refine wpAny_setItem_pairs (hsz:=o) (mj P) m λh' d i=>h _ ?_;have M:∃q,h'.get? a=some q:=let ⟨q,_,_,f,_⟩:=d;⟨q,f⟩
  exact sm I (by rw[e];exact True.intro) i M (Ay w hd (n.put k K) d)
 .subst p t;cases (show u=Value.ref b from P);obtain⟨x,hd,xs,n,m⟩:=Iu I.hok e;have o:xs.length≤sizeLine:=by rw[<- Paired.length n];exact x
  have w:(putK j k v).length≤sizeLine:=by have:=jI j k v;lia
  refine wpAny_setItem_heap (hsz:=o) (nw N) (lN I.hok S) m λh' d i=>h _ ?_;obtain⟨q,es,C,f,h2,D,J,_,L⟩:=d;refine sm I (by rw[e];exact True.intro) i ⟨q,f⟩ ⟨w,hd,_,(n.put k S K).keeps λc ys F=>?_,q,es,C,f,h2,D,J,L⟩;rw[ao (HC F e (λx=>nomatch x))];exact F
end
noncomputable def G_(td ty tv:TE):TS:=λD G H=>tv G H λv U=>td G U λx H2=>ty G H2 λy e=>∃a h,x=.ref a/\uL e a y v h/\D.nx G h
section
variable{X:Cx}{o i e value:Expr}{O pos' tpos:Pos}{td ty tv:TE}
theorem wA(t:X.A.units+1 < cLine)(c:PE X o td)(q:PE X i ty)(p:PE X value tv)(m:swapsWith value (some (.Subscript o i pos')) O.line X.env=pure false) :
  PS X (.Assign [.Subscript o i pos'] value O) (G_ td ty tv):=by
 intro B s G H D I h;refine wpAny_Assign_Subscript (cV (p B s G H _ I h) λr K ⟨v,U,n,l,d⟩=>cV (c B K G U _ n d) λu P ⟨x,H2,k,S,w⟩=>cV (q B P G H2 _ k w) λC E z=>?_) m;obtain⟨y,A,f,F,a,e,ex,g,j⟩:=z;subst ex;obtain rfl:u=Value.ref a:=S;exact yb t f g F l λJ b=>⟨G,e,b,j⟩
end
theorem Az(h:Heap)(b:sysModules < h.objs.size):cf P w H (h.push { cls:=.type "dict",data:=.dict #[] }) h.objs.size (.dK []):=
 ⟨Nat.zero_le _,kx.mpr (Ne.symm (bM b)),[],.nil,Heap.DictOf.new h⟩
theorem Ax(h:Heap)(b:sysModules < h.objs.size):cf P w H (h.push { cls:=.type "dict",data:=.dict #[] }) h.objs.size (.dT []):=
 ⟨Nat.zero_le _,kx.mpr (Ne.symm (bM b)),[],.nil,_,#[],0,Heap.get?_push_size _ rfl,⟨rfl,rfl,rfl⟩,rfl,rfl,List.nodup_nil⟩
def DL:TE:=λ_ H Q=>∀p,H p=none->Q (.ref p) (bW H p (.dK []))
def DK:TE:=λ_ H Q=>∀p,H p=none->Q (.ref p) (bW H p (.dT []))
section
variable{X:Cx}{O:Pos}
theorem zx:PE X (.Dict [] [] O) DL:=λB s G H Q I h=>
 wpAny_Dict_empty ⟨.ref s.heap.objs.size,_,I.laid (a:=s.heap.objs.size) (o:=.dK []) (t':=s.toks) (λ_ _ q=>Heap.get?_push_of_some _ q) (Nat.le_refl _) (Az s.heap I.big),rfl,h _ (I.hok.fresh (Nat.le_refl _))⟩
theorem zw:PE X (.Dict [] [] O) DK:=λB s G H Q I h=>
 wpAny_Dict_empty ⟨.ref s.heap.objs.size,_,I.laid (a:=s.heap.objs.size) (o:=.dT []) (t':=s.toks) (λ_ _ q=>Heap.get?_push_of_some _ q) (Nat.le_refl _) (Ax s.heap I.big),rfl,h _ (I.hok.fresh (Nat.le_refl _))⟩
end
abbrev VV:List (V×V)->List (Value×Value)->Prop:=Paired λp q=>RelV p.1 q.1/\RelV p.2 q.2
structure M1(X:Cx)(o:Expr)(m:Str)(apos:Pos)(e:Expr)(cpos:Pos):Prop where
 base:attributeBase o m X.env (eval o X.env)=eval o X.env
 few:((backTo cpos (starEach [e] X.env)).all (fun x=>!x.1) && (backToKw cpos (keywordEach [] X.env)).all (fun x=>x.1.isSome)
  && decide (([e]:Ab).length+([]:List Keyword).length+(if ([]:List Keyword).isEmpty then 0 else 1) < 30))=true
 line:(apos.endLine == cpos.line)=true
 trees:backTo cpos (starEach [e] X.env)=[(false,eval e X.env)]
structure M2(X:Cx)(o:Expr)(m:Str)(apos:Pos)(e f:Expr)(cpos:Pos):Prop where
 base:attributeBase o m X.env (eval o X.env)=eval o X.env
 few:((backTo cpos (starEach [e,f] X.env)).all (fun x=>!x.1) && (backToKw cpos (keywordEach [] X.env)).all (fun x=>x.1.isSome)
  && decide (([e,f]:Ab).length+([]:List Keyword).length+(if ([]:List Keyword).isEmpty then 0 else 1) < 30))=true
 line:(apos.endLine == cpos.line)=true
 trees:backTo cpos (starEach [e,f] X.env)=[(false,eval e X.env),(false,eval f X.env)]
def Ls(H:Hp)(a:Addr):Prop:=(∃j,Rd H a (.dK j))\/∃j,Rd H a (.dT j)
variable{B:PN}{G:St}{s:Shared}
theorem vF(I:Inv X B G H s)(d:Ls H a) :
  s.TypeIs (.ref a) "dict"/\(∀b,Value.ref a=.ref b->∃o,s.heap.get? b=some o/\o.dict=none)/\(a == sysModules)=false:=by
 rcases d with ⟨j,e⟩|⟨j,e⟩
 .obtain⟨_,hd,v,_,h⟩:=qd I.hok e;refine⟨h.typeIs,λb q=>?_,hd⟩;cases q;obtain⟨o,_,_,J,h2,_⟩:=h;exact⟨o,J,h2.2.1⟩
 .obtain⟨_,hd,xs,_,h⟩:=qc I.hok e;refine⟨h.typeIs,λb q=>?_,hd⟩;cases q;obtain⟨o,_,_,J,h2,_⟩:=h;exact⟨o,J,h2.2.1⟩
section
variable{X:Cx}{B:PN}{G:St}{H:Hp}{s:Shared}{a:Addr}{y d:V}{u r:Value}{o:Option V}{A:Around}{E:VP}
theorem Fb(m:A.units+1 < cLine)(I:Inv X B G H s)(g:ja H a y o)(f:RelV y u)(h:∀w z,Inv X B G H z->RelV (o.getD .non) w->Q w z) :
  wpAny (model X.prog X.w) A (call (.builtin "dict.get") [.ref a,u]) Q E s:=by
 rcases g with ⟨j,k,e,n,l⟩|⟨j,k,b,e,n,c,l⟩
 .subst n;obtain⟨x,hd,v,r,d⟩:=qd I.hok e;refine kN lA d.typeIs qJ (PySem.F.args_dict_get_2 _ _) (meets_dict_get (bH X.prog X.w) a (mj f) hd) ⟨_,d.mapOf,h _ _ (I.tok _) ?_⟩;rw[l];exact(r.val k).getD rfl
 .subst n;cases (show u=Value.ref b from f);obtain⟨x,hd,xs,r,d⟩:=qc I.hok e;refine kN lA d.typeIs qJ (PySem.F.args_dict_get_2 _ _) (meetsH_dict_get (tupleKind (bH X.prog X.w)) a b hd) ⟨nw m,k,xs,lN I.hok c,d,h _ _ (I.tok _) ?_⟩;rw[l];exact(r.val k).getD rfl
theorem Fa(q:A.units+1 < cLine)(I:Inv X B G H s)(g:ja H a y o)(t:RelV y u)(m:RelV d r)(h:∀w z,Inv X B G H z->RelV (o.getD d) w->Q w z) :
  wpAny (model X.prog X.w) A (call (.builtin "dict.get") [.ref a,u,r]) Q E s:=by
 rcases g with ⟨j,k,e,c,l⟩|⟨j,k,b,e,c,p,l⟩
 .subst c;obtain⟨x,hd,v,n,f⟩:=qd I.hok e;refine kN lA f.typeIs qJ (PySem.F.args_dict_get_3 _ _ _) (meets_dict_get_default (bH X.prog X.w) a (mj t) hd r) ⟨_,f.mapOf,h _ _ (I.tok _) ?_⟩;rw[l];exact(n.val k).getD m
 .subst c;cases (show u=Value.ref b from t);obtain⟨x,hd,xs,n,f⟩:=qc I.hok e;refine kN lA f.typeIs qJ (PySem.F.args_dict_get_3 _ _ _) (meetsH_dict_get_default (tupleKind (bH X.prog X.w)) a b hd r) ⟨nw q,k,xs,lN I.hok p,f,h _ _ (I.tok _) ?_⟩;rw[l];exact(n.val k).getD m
end
noncomputable def DN(td ty:TE):TE:=λG H Q=>td G H λx U=>∃a,x=.ref a/\Ls U a/\ty G U λy H2=>∃o,ja H2 a y o/\Q (o.getD .non) H2
noncomputable def DM(td ty tx:TE):TE:=λG H Q=>td G H λx U=>∃a,x=.ref a/\Ls U a/\ty G U λy H2=>tx G H2 λz h=>∃o,ja h a y o/\Q (o.getD z) h
section
variable{X:Cx}{o e f:Expr}{apos cpos:Pos}{td ty tx:TE}
theorem zz(t:X.A.units+1 < cLine)(c:PE X o td)(b:PE X e ty)(m:M1 X o "get" apos e cpos):PE X (.Call (.Attribute o "get" apos) [e] [] cpos) (DN td ty):=by intro B s G H Q I h;refine wpAny_Call_method m.base m.few m.line uV lA PySem.F.type_dict_get (cV (c B s G H _ I h) λu i z=>?_);obtain⟨x,U,n,v,a,ex,d,q⟩:=z;subst ex;obtain rfl:u=Value.ref a:=v;obtain⟨j,l,_⟩:=vF n d;refine⟨j,l,?_⟩;rw[m.trees];refine Calls.callWith_builtin rfl (Calls.evalArgs_plain (Calls.spliced_cons (cV (b B i G U _ n q) λS K ⟨y,H2,k,w,F,g,p⟩=>kt ?_)));exact Fb t k g w λA P f r=>⟨_,H2,f,r,p⟩
theorem zy(w:X.A.units+1 < cLine)(v:PE X o td)(p:PE X e ty)(q:PE X f tx)(m:M2 X o "get" apos e f cpos):PE X (.Call (.Attribute o "get" apos) [e,f] [] cpos) (DM td ty tx):=by
 intro B s G H Q I h;refine wpAny_Call_method m.base m.few m.line uV lA PySem.F.type_dict_get (cV (v B s G H _ I h) fun u A i=>?_);obtain⟨x,U,n,F,a,ex,d,j⟩:=i;subst ex;obtain rfl:u=Value.ref a:=F;obtain⟨D,E,_⟩:=vF n d;refine⟨D,E,?_⟩;rw [m.trees];refine Calls.callWith_builtin rfl (Calls.evalArgs_plain (Calls.spliced_cons (cV (p B A G U _ n j) fun L C ⟨y,H2,b,K,l⟩=>
  Calls.spliced_cons (cV (q B C G H2 _ b l) λJ N ⟨z,k,c,P,M,g,S⟩=>kt ?_))))
 exact Fa w c g K P λR O t r=>⟨_,k,t,r,S⟩
end
end L2
namespace Att
open PySem PySem.W PySem.Calls PyProof.Rows
theorem mH:∀(s:List Int)(v:LV),WellAll P h v (s.map WData.int)->IntsAre v s:=by
 intro s;induction s with
 |nil=>intro v w;rw[iJ]at w;cases w;exact .nil
 |cons n s i=>
  intro v w;rw[List.map_cons]at w;cases w with
  |cons a b=>cases a;exact .cons _ _ (i _ b)
theorem xB{l:OpenLaw}(t:l.most=some n)
  (p:l.row.toRowW.claim.pre N=true) (w:WellAll P h vals N) :
  ∃a v s,vals=[Value.ref a]/\N=[WData.list (s.map WData.int)]/\h.get? a=some { cls:=.type "list",data:=.seq v.toArray }/\IntsAre v s/\s.length≤n:=by
 have b:WShape.hasAll [] N [.list .int]=true:=(pre_splitW p).1;have c:l.pre.holds [] { args:=N }=true:=(pre_splitW p).2;obtain⟨d,r,rfl,J,h2⟩:=hasAllW_cons b;obtain rfl:=hasAllW_nil h2;obtain⟨xs,rfl,m⟩:=hasW_list J;obtain⟨s,rfl⟩:=items_int m;have e:s.length≤n:=by
  unfold OpenLaw.pre at c;have k:(WTm.not (.lt (.lit (.int (n:Int))) (.len (.arg 0)))).holds [] { args:=[.list (s.map .int)] }=true:=by have k:=(holds_andW c).1;rw[t]at k;exact k
  have f:=condW_of k (w_not (w_lt w_lit (w_len_list (w_arg rfl))));rw[a7]at f;refine Nat.le_of_not_lt λq=>?_;have u:(n:Int) < ((s.length:Nat):Int):=by lia
  first
   |(rw[ju u]at f;exact absurd f (by decide))
   |(simp at f;lia)
 cases w with
 |cons g i=>
  cases i;cases g with
  |list o x=>exact⟨_,_,s,rfl,rfl,o,mH s _ x,e⟩
theorem xF(l:OpenLaw)(a:List WData):l.row.toRowW.claim.post a (.bool true) a=true:=
 postW_of (r:=l.row.toRowW) (X:=(true == true))
  (show WShape.has [] (.bool true) .bool=true by first|rfl|decide|simp[WShape.has,WShape.arms,WShape.armsAll])
  (show(WTm.eq .res (.lit (.bool true))).value [] { args:=a,res:=some (.bool true),after:=a }=some (.bool (true == true)) from w_eq_bool (w_res rfl) w_lit) rfl
theorem attach_call{l:OpenLaw}
  (E:l.most=some n) (q:d.params.defaults=[])
  (call:∀(w:World) (h s:Shared) (mg j:SV) (x:Addr) (o:Obj) (y k c:Value) (a:Addr) (v:LV) (m:List Int),
   Ground N loose [] XP w h mg j s.heap->YP w s.heap ->
   s.heap.get? x=some o->o.data=.func (docDef d.name d.params d.body d.scope y k c)->s.heap.CodeRec k d.name->mg d.name=some (.ref x) ->
   s.heap.get? a=some { cls:=.type "list",data:=.seq v.toArray }->IntsAre v m->m.length≤n->s.gens=#[] ->
   codeAny (model l.prog w) callerA (.call (.ref x) ⟨[.ref a],[]⟩) (λr z=>r=.ok (.ret (.bool true))/\OldK s.heap z.heap/\z.os=s.os/\AllBare z.gens) s) :
  WalkO N loose XP YP l.row.toRowW d [] (λf v=>PySem.call f v):=by
 intro w h s mg j G Y x o y k c V kV I hd t D g A H F M p S L u B;obtain rfl:V=.none:=Dflts.none D q;obtain rfl:kV=.none:=Dflts.noKw D;obtain⟨a,v,m,rfl,rfl,b,i,e⟩:=xB E p u;refine enter_call (lq (call w h s mg j x o y k c a v m G Y I (fd_plain hd) t g b i e A) λr z J=>?_);obtain⟨rfl,h2,K,P⟩:=J;exact⟨.inl ⟨.bool true,.bool true,[],rfl,λ_=>rfl,.bool true,xF l _,λ_=>⟨List.Pairwise.nil,λ_ C=>(nomatch C)⟩⟩,h2,K,P⟩
end Att
namespace L2
open PySem PySem.Spec PyProof.Rows
theorem pH:∀{v:LV}{s:List Int},IntsAre v s->aM (s.map V.int) v
 |_,_,.nil=>.nil
 |_,_,.cons n t h=>.cons ⟨t,rfl⟩ (pH h)
def yq(H:Hp):Prop:=∀b,H b=none\/∃o xs,H b=some (.frz o (.lst xs))
theorem zS{P:Program}{w:World}{K:FG}{mg W:SV}{CX:yt}{k:Nat}{Q a:Addr}{fd:FuncData}{x:Str}{sp:Sp}{t:Shared}{y:LV}{L:List Int}
  (Z:K.In t.heap) (D:t.heap.Ns mainGlobals mg) (g:t.heap.Ns builtinsNs W) (R:∀x:Str,x≠"__name__"->W x=bootBuiltins x) (C:t.heap.NoLimit) (hg:t.gens=#[])
  (N:t.heap.get? a=some { cls:=.type "list",data:=.seq y.toArray }) (q:IntsAre y L) (hl:L.length≤sizeLine) (hr:Room k callerA)
  (F:∀base:Heap,K.In base->base.Ns mainGlobals mg->FnOk P w K mg base CX k Q fd [x] sp) (l:∀(s:Shared)(u:Value),BindsTo s fd ⟨[u],[]⟩ [(x,u)])
  (U:∀H:Hp,yq H->ie K H a (L.map V.int)->sp [.ref a] H (λv _=>v=.bl true) λ_ _ _=>False)
  (X:∀H e z,CX [] H t (λ_ _ _=>False) e z->False) :
  codeAny (model P w) callerA (.call (.ref Q) ⟨[.ref a],[]⟩) (λr z=>r=.ok (.ret (.bool true))/\OldK t.heap z.heap/\z.os=t.os/\AllBare z.gens) t:=by
 have rv:=pH q;have I:=q.length;have j:∀H:Hp,yq H->ie K H a (L.map V.int)->jk P w H t.heap->(∀b,H b≠none->b=a)->(H a≠none->K.lookup a=none) ->
   codeAny (model P w) callerA (.call (.ref Q) ⟨[.ref a],[]⟩) (λr z=>r=.ok (.ret (.bool true))/\OldK t.heap z.heap/\z.os=t.os/\AllBare z.gens) t:=by
  intro H hO hS E hA hK;have p:∀{b:Addr}{o:Obj},t.heap.get? b=some o->H b=none->(rW t.heap H).get? b=some o:=λe n=>Al e n
  have Y:∀{b:Addr}{o:Obj}{es:Array DictEntry}{A:Nat},t.heap.get? b=some o->o.data=.dict es A->H b=none:=λ{b o es A} e d=>by
   cases f:H b with
   |none=>rfl
   |some u=>have O:b=a:=hA b (by rw[f];simp);subst O;rw[N]at e;cases e;have d':Data.seq y.toArray _=Data.dict es A:=d;cases d'
  have i:∀{b:Addr}{m:SV},t.heap.Ns b m->(rW t.heap H).Ns b m:=fun {b m} ⟨o,es,A,e,d,r⟩=>⟨o,es,A,p e (Y e d),d,r⟩;have B:K.In (rW t.heap H):=fun b o e=>p (Z b o e) (by
   cases f:H b with
   |none=>rfl
   |some u=>have O:b=a:=hA b (by rw[f];simp);subst O;rw[hK (by rw[f];simp)]at e;cases e)
  have hM:Mod K mg (rW t.heap H):=⟨B,i D,⟨W,i g,R⟩,let ⟨mc,J,h2⟩:=C;⟨mc,i J,h2⟩⟩;have e0:Env0 P w K mg (rW t.heap H) callerA [] t H:=⟨rfl,hM,λb o e=>BR e,Nat.le_of_eq (xZ _ _),trivial,λb g=>absurd (show b ∈ ([]:List Addr) from g) (by simp),E,.of_eq hg⟩;refine lq ((F _ B (i D)).run callerA [] t H ⟨[.ref a],[]⟩ [.ref a] [.ref a] _ _ hr e0 (l t (.ref a)) (.cons rfl .nil) (U H hO hS)) λr z h=>?_;cases r with
  |error e=>exact(X H e z h).elim
  |ok fl=>
   cases fl with
   |next=>exact False.elim h
   |brk=>exact False.elim h
   |cont=>exact False.elim h
   |ret u=>
    obtain⟨v,H',os,S,un,G,r',f⟩:=h;have q':v=.bl true:=f;subst q';obtain rfl:u=Value.bool true:=r';refine⟨rfl,OldK.of_keep λb o e=>?_,os,S⟩;cases f:H b with
    |none=>exact un.keep b o e f (by intro c;exact absurd (show b ∈ ([]:List Addr) from c) (by simp)) (by simp)
    |some u=>
     rcases hO b with c|⟨ob,xs,c⟩
     .rw [f]at c;cases c
     .have z2:=un.frzs b ob _ c;obtain⟨e1,_⟩:=E b _ c;obtain⟨e2,_⟩:=G b _ z2;rw[e]at e1;cases e1;exact e2
 cases T:K.lookup a with
 |some o=>have e:=Z a o T;rw[N]at e;cases e;refine j (λ_=>none) (λ_=>.inl rfl) (.inr ⟨_,y.toArray,_,T,rfl,rfl,rfl,by rw[List.size_toArray,I];exact hl,by simpa using rv⟩) (λb u c=>by have M:(none:Option HO)=some u:=c;cases M) (λb c=>absurd rfl c) λc=>absurd rfl c
 |none=>
  refine j (λb=>if b=a then some (.frz { cls:=.type "list",data:=.seq y.toArray } (.lst (L.map V.int))) else none) (λb=>?_) (.inl (.inr ⟨{ cls:=.type "list",data:=.seq y.toArray },if_pos rfl⟩)) (λb u c=>?_) (λb c=>?_) λ_=>T
  .by_cases g:b=a
   .exact .inr ⟨_,_,if_pos g⟩
   .exact .inl (if_neg g)
  .by_cases g:b=a
   .have M:=(if_pos g).symm.trans c;cases M;subst g;exact⟨N,by rw[a7];exact hl,y,_,rv,N⟩
   .have M:=(if_neg g).symm.trans c;cases M
  .by_cases g:b=a
   .exact g
   .exact absurd (if_neg g) c
noncomputable abbrev L9{K:FG}(_:K.In h):FG:=K
theorem A8{l:PySem.W.OpenLaw}{n k:Nat}{q:Program}{c:LS}{D:(SV)->Heap->Prop}{P:World->Heap->Prop}{d:DefRec}{K:Params->FG}{CX:World->yt}{sp:World->Sp}{x:Str}
  (R:l.most=some n) (y:n≤sizeLine) (p:d.params.defaults=[]) (T:Room k callerA)
  (L:∀(w:World)(h:Heap),P w h->(K w.params).In h)
  (F:∀(w:World) (mg:SV) (r:Addr) (h:Heap),(K w.params).In h->h.Ns mainGlobals mg->mg d.name=some (.ref r) ->
   ∃fd:FuncData,(∀(s:Shared)(u:Value),BindsTo s fd ⟨[u],[]⟩ [(x,u)]) /\
    ∀base:Heap,(K w.params).In base->base.Ns mainGlobals mg->FnOk l.prog w (K w.params) mg base (CX w) k r fd [x] (sp w))
  (S:∀(w:World)(H:Hp)(a:Addr)(t:List Int),t.length≤n->yq H->ie (K w.params) H a (t.map V.int)->sp w [.ref a] H (λv _=>v=.bl true) λ_ _ _=>False)
  (C:∀(w:World)(H:Hp)(s:Shared)(e:Value)(z:Shared),CX w [] H s (λ_ _ _=>False) e z->False) :
  PySem.W.WalkO q c D P l.row.toRowW d [] (λf B=>PySem.call f B):=by
 refine Att.attach_call R p λw A m mg Z r o pm U E a B t G Y W hd N g j i b Q=>?_;have X:=L w _ Y;obtain⟨fd,M,I⟩:=F w mg r _ X G.T.g g;exact zS X G.T.g G.T.b G.T.builtins G.T.nolimit Q j i (aU b y) T I M (λH O J=>S w H a t b O J) λH e z=>C w H m e z
theorem yG{l:PySem.W.OpenLaw}{n k:Nat}{q:Program}{o:LS}{X:(SV)->Heap->Prop}{Y:World->Heap->Prop}{d:DefRec}{K:Params->FG}{CX:yt}{sp:FG->Sp}{x:Str}
  (i:l.most=some n) (m:n≤sizeLine) (c:d.params.defaults=[]) (j:Room k callerA)
  (g:∀(w:World)(h:Heap),Y w h->(K w.params).In h)
  (F:∀(w:World) (mg:SV) (r:Addr) (h:Heap),(K w.params).In h->h.Ns mainGlobals mg->mg d.name=some (.ref r) ->
   ∃fd:FuncData,(∀(s:Shared)(u:Value),BindsTo s fd ⟨[u],[]⟩ [(x,u)]) /\
    ∀base:Heap,(K w.params).In base->base.Ns mainGlobals mg->FnOk l.prog w (K w.params) mg base CX k r fd [x] (sp (K w.params)))
  (p:∀(K:FG)(H:Hp)(a:Addr)(b:List Int),b.length≤n->yq H->ie K H a (b.map V.int)->sp K [.ref a] H (λv _=>v=.bl true) λ_ _ _=>False)
  (C:∀(H:Hp)(s:Shared)(e:Value)(z:Shared),CX [] H s (λ_ _ _=>False) e z->False) :
  PySem.W.WalkO q o X Y l.row.toRowW d [] (λf y=>PySem.call f y):=
 A8 (K:=K) (CX:=λ_=>CX) (sp:=λw=>sp (K w.params)) i m c j g F (λw H a b J h2 t=>p (K w.params) H a b J h2 t) λ_ H s e z=>C H s e z
noncomputable def cA(s:Stmt)(j:Nat):Stmt:=match s with
 | .ClassDef _ _ _ b _ _ _ _ _ _ _=>b.getD j (.Pass ⟨0,0,0,0⟩)
 |_=>.Pass ⟨0,0,0,0⟩
noncomputable def gI(s:Stmt):Arguments:=match s with
 | .FunctionDef _ a _ _ _ _ _ _ _ _=>a
 |_=>{ posonlyargs:=[],args:=[],vararg:=none,kwonlyargs:=[],kw_defaults:=[],kwarg:=none,defaults:=[] }
noncomputable def cW(s:Stmt):List Stmt:=match s with
 | .FunctionDef _ _ b _ _ _ _ _ _ _=>b
 |_=>[]
noncomputable def aF(s:Stmt):Scope:=match s with
 | .FunctionDef _ _ _ _ _ _ sc _ _ _=>sc
 |_=>{ kind:=.function,names:=[],isGenerator:=false,isCoroutine:=false }
noncomputable abbrev qy:yt:=λ_ _ _ _ _ _=>False
noncomputable abbrev E0:XK:=λ_ _ _=>False
theorem pU:kK qy X E0:=λ_ _ _ _ _ _ _ h=>h.elim
structure Fun(K:FG)(x qual:Str)(st:Stmt)(f:Addr)(fd:FuncData):Prop where
 ex:∃(oc:Value)(od:Option Addr)(kV doc pm:Value)(an:Option Addr)(cdv ct:Value)(osl:Array (OV)),
  fd=PySem.W.fnOf x qual (gI st) (cW st) (aF st) .none kV doc pm an cdv ct/\K.lookup f=some ⟨oc,od,.func fd,osl⟩/\PySem.W.codeIn K cdv qual=true
 kp:PySem.W.keepIn K (.ref f)=true
section
variable{P:Program}{w:World}{K:FG}{mg:SV}{base:Heap}
theorem Fun.ok{x u:Str}{st:Stmt}{f:Addr}{fd:FuncData}{N ps:LS}{k:Nat}{sp:Sp}(F:Fun K x u st f fd)(S:FnScope N ps (aF st))(len:∀v H Q E,sp v H Q E->v.length=ps.length)
  (b:∀(c:Value) (A:Around) (o:List Env) (s:Shared) (H:Hp) (v:List V) (Q:VK) (E:XK),Room k (A.deeper (envOfC u (aF st) s.heap.objs.size f c))->sp v H Q E ->
   ∃t,jW (mR qy P w K mg base N u (aF st) f c A o s H E).nox (cW st) t/\t { nx:=λ_ H'=>Q .non H',rt:=Q } (start N v) H):FnOk P w K mg base qy (k+1) f fd ps sp:=by
 obtain⟨m,g,kV,a,i,n,c,e,l,rfl,lk,d⟩:=F.ex;refine C4 lk d S len λA o s H v Q E r p=>?_;obtain⟨t,h,q⟩:=b c A o s H v Q E r p;exact⟨t,h.nox,q⟩
theorem Fun.binds{x q:Str}{st:Stmt}{f:Addr}{fd:FuncData}{ps:LS}(F:Fun K x q st f fd)
  (h:∀(kV d p:Value)(a:Option Addr)(c t:Value)(Y:LV),Y.length=ps.length->bindArgs (PySem.W.fnOf x q (gI st) (cW st) (aF st) .none kV d p a c t) ⟨Y,[]⟩=pure (ps.zip Y)):Binds K fd ps []:=by
 obtain⟨s,n,kV,d,p,a,c,t,o,rfl,lk,e⟩:=F.ex;exact .all (h kV d p a c t)
theorem jO{x q:Str}{st:Stmt}{f:Addr}{h:Value}{e a:Option Addr}{s:Array (OV)}{kV o p d t:Value}(l:K.lookup f=some ⟨h,e,.func (PySem.W.fnOf x q (gI st) (cW st) (aF st) .none kV o p a d t),s⟩)
  (c:PySem.W.codeIn K d q=true) (k:PySem.W.keepIn K (.ref f)=true):Fun K x q st f (PySem.W.fnOf x q (gI st) (cW st) (aF st) .none kV o p a d t):=⟨⟨h,e,kV,o,p,a,d,t,s,rfl,l,c⟩,k⟩
end
section
variable{X:Cx}
theorem pv(i:Nat)(N:X.N[i]? = some x:=by rfl)(v:Db X.env.scope x:=by first|exact Or.inl rfl|exact Or.inr (Or.inl rfl)|exact Or.inr (Or.inr rfl))(hd:(x == ("__debug__":Str))=false:=by decide)
  (h:(x == ("__classdict__":Str))=false:=by decide):PE X (.Name x O) (GN i):=zo N v hd h
end
def M3(H H':Hp):Prop:=∀b o,H b=some o->H' b=some o
end L2
namespace PySem
open PySem PyProof.Rows
namespace F
theorem entry_dict_update_loop:entryFor table "dict.update.loop"=some Builtin.«dict.update.loop»:=entryFor_of_tree (by kernel_rfl)
theorem plain_dict_update_loop:plainId "dict.update.loop"=true:=by decide +kernel
end F
section
variable{prog:Program}{w:World}{A:Around}{E:VP}{s:Shared}
inductive PairsAt{K:Type}[DecidableEq K](knd:KeyKind prog w K)(h:Heap):LV->List (K×Value)->Prop
 |nil:PairsAt knd h [] []
 |cons {t:Addr}{key v:Value}{k:K}{us:LV}{kvs:List (K×Value)}:IsTup h t #[key,v]->knd.is k key=true->PairsAt knd h us kvs->PairsAt knd h (.ref t::us) ((k,v)::kvs)
end
end PySem
namespace Ev
open PySem L2
def mr(a C:Addr):Heap->Prop:=λh=>∃o,h.get? a=some o/\o.cls=.ref C
inductive P where
 |non|bl (b:Bool)|int (i:Int)|str (x:Str)|tup (xs:List P)|lst (xs:List P)|ro (xs:List P)|dct (ks:List bz) (vs:List P)
inductive D where
 |p (v:P)|ref (i:Nat)
inductive SO where
 |lst (xs:List D)|dct (ks:List bz) (vs:List D)|fz (v:P)|ins (c:Str) (ks:LS) (vs:List D)|exc (c:Str)|dtt (ks:List (List bz)) (vs:List D)
noncomputable abbrev aD:=List SO
noncomputable abbrev Lc:=List (Option D)
def Lq(K:FG)(a:Addr)(xs:List V):Prop:=sS K (λ_=>none) a xs
def Lr(K:FG)(a:Addr)(xs:List V):Prop:=ie K (λ_=>none) a xs
def TupAt(K:FG)(H:Hp)(a:Addr)(xs:List V):Prop:=H a=some (.tup xs)\/Lq K a xs
def LstAt(F:Aa)(H:Hp)(a:Addr)(xs:List V):Prop:=F a/\H a=some (.lst xs)
def yo(K:FG)(F:Aa)(H:Hp)(a:Addr)(xs:List V):Prop:=(F a/\∃o,H a=some (.frz o (.lst xs)))\/Lr K a xs
variable{K:FG}{H:Hp}{a:Addr}{xs:List V}
theorem TupAt.sq(h:TupAt K H a xs):sS K H a xs:=by
 rcases h with h|(h|h)
 .exact .inl (.inl h)
 .rcases h with h|⟨o,h⟩<;>cases h
 .exact .inr h
variable{F:Aa}
theorem LstAt.sq(h:LstAt F H a xs):ie K H a xs:=.inl (.inl h.2)
theorem yo.sq(h:yo K F H a xs):ie K H a xs:=by
 rcases h with ⟨_,o,h⟩|(h|h)
 .exact .inl (.inr ⟨o,h⟩)
 .rcases h with h|⟨o,h⟩<;>cases h
 .exact .inr h
section
variable(K:FG)(F:Aa)(H:Hp)
mutual
noncomputable def RP:P->V->Prop
 | .non,v=>v=.non
 | .bl b,v=>v=.bl b
 | .int i,v=>v=.int i
 | .str x,v=>v=.str x
 | .tup ds,v=>∃a xs,v=.ref a/\TupAt K H a xs/\cC ds xs
 | .lst ds,v=>∃a xs,v=.ref a/\LstAt F H a xs/\cC ds xs
 | .ro ds,v=>∃a xs,v=.ref a/\yo K F H a xs/\cC ds xs
 | .dct ks ds,v=>∃a kvs,v=.ref a/\F a/\H a=some (.dK kvs)/\kvs.map (·.1)=ks/\cC ds (kvs.map (·.2))
noncomputable def cC:List P->List V->Prop
 | [],xs=>xs=[]
 |d::ds,xs=>∃x r,xs=x::r/\RP d x/\cC ds r
end
def RD(m:List Addr):D->V->Prop
 | .p d,v=>RP K F H d v
 | .ref i,v=>∃a,v=.ref a/\m[i]? = some a
def dt(m:List Addr):List D->List V->Prop
 | [],xs=>xs=[]
 |d::s,xs=>∃x r,xs=x::r/\RD K F H m d x/\dt m s r
def RO(m:List Addr)(a:Addr):SO->Prop
 | .lst d=>∃xs,H a=some (.lst xs)/\dt K F H m d xs
 | .dct s d=>∃k,H a=some (.dK k)/\k.map (·.1)=s/\dt K F H m d (k.map (·.2))
 | .fz v=>RP K F H v (.ref a)
 | .ins c s d=>∃C x k,PySem.W.nsIn K mainGlobals c=some (some (.ref C))/\H a=some (.ins C x k)/\k.map (·.1)=s/\dt K F H m d (k.map (·.2))
 | .dtt s d=>∃k,H a=some (.dT k)/\k.map (·.1)=s/\dt K F H m d (k.map (·.2))
 | .exc c=>∃C,PySem.W.nsIn K mainGlobals c=some (some (.ref C))/\H a=some (.ext (mr a C))
def SO.own:SO->Prop
 | .fz _=>False
 |_=>True
structure Rel(m:List Addr)(S:aD):Prop where
 len:m.length=S.length
 nd:m.Nodup
 obj:∀(i:Nat) a o,m[i]? = some a->S[i]? = some o->RO K F H m a o
 sep:∀(i:Nat) a o,m[i]? = some a->S[i]? = some o->o.own->¬F a
 trk:∀a ∈ m,H a≠none
 ft:∀a,F a->H a≠none
end
structure Kp(F:Aa)(m:List Addr)(H:Hp)(F':Aa)(m':List Addr)(H':Hp):Prop where
 pre:∃n,m'=m++n
 frz:∀b,F b->F' b
 frk:∀b o,F b->H b=some o->H' b=some o
 tup:∀b xs,H b=some (.tup xs)->H' b=some (.tup xs)
structure Stp(F:Aa)(m:List Addr)(H:Hp)(F':Aa)(m':List Addr)(H':Hp):Prop where
 pre:∃n,m'=m++n
 oth:∀b o,H b=some o->b ∉ m->H' b=some o
 frz:∀b,F b->F' b
 frk:∀b o,F b->H b=some o->H' b=some o
 tup:∀b xs,H b=some (.tup xs)->H' b=some (.tup xs)
 trk:∀b,H b≠none->H' b≠none
 nf:∀b,F' b->F b\/H b=none\/b ∈ m
 nm:∀b,b ∈ m'->b ∈ m\/H b=none
variable{F':Aa}{m:List Addr}{m':List Addr}{H':Hp}
theorem Stp.kp(s:Stp F m H F' m' H'):Kp F m H F' m' H':=⟨s.pre,s.frz,s.frk,s.tup⟩
theorem Stp.refl:Stp F m H F m H:=
 ⟨⟨[],by simp⟩,λ_ _ h _=>h,λ_ h=>h,λ_ _ _ h=>h,λ_ _ h=>h,λ_ h=>h,λ_ h=>.inl h,λ_ h=>.inl h⟩
theorem Stp.trans(a:Stp F m H Y k I)(b:Stp Y k I B r U):Stp F m H B r U where
 pre:=by obtain⟨f,s⟩:=a.pre;obtain⟨t,n⟩:=b.pre;exact⟨f++t,by rw[n,s,List.append_assoc]⟩
 oth:=λc o h x=>b.oth c o (a.oth c o h x) λz=>by
  rcases a.nm c z with z|z
  .exact x z
  .rw [h]at z;cases z
 frz:=λc h=>b.frz c (a.frz c h)
 frk:=λc o h e=>b.frk c o (a.frz c h) (a.frk c o h e)
 tup:=λc xs h=>b.tup c xs (a.tup c xs h)
 trk:=λc h=>b.trk c (a.trk c h)
 nf:=λc h=>by
  rcases b.nf c h with h|h|h
  .exact a.nf c h
  .by_cases e:H c=none
   .exact .inr (.inl e)
   .exact absurd h (a.trk c e)
  .rcases a.nm c h with h|h
   .exact .inr (.inr h)
   .exact .inr (.inl h)
 nm:=λc h=>by
  rcases b.nm c h with h|h
  .exact a.nm c h
  .by_cases e:H c=none
   .exact .inr e
   .exact absurd h (a.trk c e)
section
variable{K:FG}{F F':Aa}{H H':Hp}{m m':List Addr}{S O:aD}
theorem TupAt.kp(s:Kp F m H F' m' H')(h:TupAt K H a xs):TupAt K H' a xs:=by
 rcases h with h|h
 .exact .inl (s.tup _ _ h)
 .exact .inr h
theorem LstAt.kp(s:Kp F m H F' m' H')(h:LstAt F H a xs):LstAt F' H' a xs:=⟨s.frz _ h.1,s.frk _ _ h.1 h.2⟩
theorem yo.kp(s:Kp F m H F' m' H')(h:yo K F H a xs):yo K F' H' a xs:=by
 rcases h with ⟨f,o,h⟩|h
 .exact .inl ⟨s.frz _ f,o,s.frk _ _ f h⟩
 .exact .inr h
mutual
theorem RP.kp(s:Kp F m H F' m' H'):∀{d:P}{v:V},RP K F H d v->RP K F' H' d v
 | .non,_,h=>h
 | .bl _,_,h=>h
 | .int _,_,h=>h
 | .str _,_,h=>h
 | .tup _,_,h=>by obtain⟨a,xs,e,t,r⟩:=h;exact⟨a,xs,e,t.kp s,cC.kp s r⟩
 | .lst _,_,h=>by obtain⟨a,xs,e,t,r⟩:=h;exact⟨a,xs,e,t.kp s,cC.kp s r⟩
 | .ro _,_,h=>by obtain⟨a,xs,e,t,r⟩:=h;exact⟨a,xs,e,t.kp s,cC.kp s r⟩
 | .dct _ _,_,h=>by obtain⟨a,kvs,e,f,t,k,r⟩:=h;exact⟨a,kvs,e,s.frz _ f,s.frk _ _ f t,k,cC.kp s r⟩
theorem cC.kp(s:Kp F m H F' m' H'):∀{ds:List P}{xs:List V},cC K F H ds xs->cC K F' H' ds xs
 | [],_,h=>h
 |_::_,_,h=>by obtain⟨x,r,e,h1,h2⟩:=h;exact⟨x,r,e,RP.kp s h1,cC.kp s h2⟩
end
theorem RD.kp(s:Kp F m H F' m' H'):∀{d:D}{v:V},RD K F H m d v->RD K F' H' m' d v
 | .p _,_,h=>RP.kp s h
 | .ref i,_,h=>by obtain⟨a,e,h⟩:=h;obtain⟨n,x⟩:=s.pre;refine⟨a,e,?_⟩;rw[x];have k:i < m.length:=(List.getElem?_eq_some_iff.mp h).1;rw[List.getElem?_append_left k];exact h
theorem dt.kp(s:Kp F m H F' m' H'):∀{d:List D}{xs:List V},dt K F H m d xs->dt K F' H' m' d xs
 | [],_,h=>h
 |_::_,_,h=>by obtain⟨x,r,e,a,n⟩:=h;exact⟨x,r,e,RD.kp s a,dt.kp s n⟩
variable{d:P}{v:V}
theorem RP.mono(s:Stp F m H F' m' H')(h:RP K F H d v):RP K F' H' d v:=RP.kp s.kp h
theorem cC.mono(s:Stp F m H F' m' H'){d:List P}{v:List V}(h:cC K F H d v):cC K F' H' d v:=cC.kp s.kp h
theorem RD.mono(s:Stp F m H F' m' H'){d:D}{v:V}(h:RD K F H m d v):RD K F' H' m' d v:=RD.kp s.kp h
theorem dt.mono(s:Stp F m H F' m' H'){d:List D}{v:List V}(h:dt K F H m d v):dt K F' H' m' d v:=dt.kp s.kp h
theorem cC.length:∀{d:List P}{xs:List V},cC K F H d xs->d.length=xs.length
 | [],_,h=>by rw[show _=([]:List V) from h]<;>rfl
 |_::_,_,h=>by obtain⟨x,r,e,_,a⟩:=h;rw[e,bt,bt,cC.length a]
theorem dt.length:∀{d:List D}{xs:List V},dt K F H m d xs->d.length=xs.length
 | [],_,h=>by rw[show _=([]:List V) from h]<;>rfl
 |_::_,_,h=>by obtain⟨x,r,e,_,a⟩:=h;rw[e,bt,bt,dt.length a]
theorem cC.get:∀{s:List P}{xs:List V}{i:Nat}{d:P},cC K F H s xs->s[i]? = some d->∃x,xs[i]? = some x/\RP K F H d x
 | [],_,_,_,_,e=>by simp at e
 |_::_,_,0,_,h,e=>by obtain⟨x,r,rfl,n,_⟩:=h;simp at e;subst e;exact⟨x,rfl,n⟩
 |_::_,_,i+1,d,h,e=>by obtain⟨x,r,rfl,_,k⟩:=h;obtain⟨y,a,f⟩:=cC.get (i:=i) k (by simpa using e);exact⟨y,by simpa using a,f⟩
theorem cC.append:∀{d C:List P}{xs y:List V},cC K F H d xs->cC K F H C y->cC K F H (d++C) (xs++y)
 | [],_,_,_,h,g=>by rw[show _=([]:List V) from h];exact g
 |_::_,_,_,_,h,g=>by obtain⟨x,r,rfl,a,e⟩:=h;exact⟨x,r++_,rfl,a,cC.append e g⟩
theorem dt.append:∀{d C:List D}{xs y:List V},dt K F H m d xs->dt K F H m C y->dt K F H m (d++C) (xs++y)
 | [],_,_,_,h,g=>by rw[show _=([]:List V) from h];exact g
 |_::_,_,_,_,h,g=>by obtain⟨x,r,rfl,a,e⟩:=h;exact⟨x,r++_,rfl,a,dt.append e g⟩
theorem cC.take:∀(n:Nat){d:List P}{xs:List V},cC K F H d xs->cC K F H (d.take n) (xs.take n)
 |0,_,_,_=>rfl
 |_+1,[],_,h=>by rw[show _=([]:List V) from h];rfl
 |n+1,_::_,_,h=>by obtain⟨x,r,rfl,a,e⟩:=h;exact⟨x,r.take n,rfl,a,cC.take n e⟩
theorem cC.drop:∀(n:Nat){d:List P}{xs:List V},cC K F H d xs->cC K F H (d.drop n) (xs.drop n)
 |0,_,_,h=>h
 |_+1,[],_,h=>by rw[show _=([]:List V) from h];rfl
 |n+1,_::_,_,h=>by obtain⟨x,r,rfl,_,a⟩:=h;exact cC.drop n a
theorem dt.take:∀(n:Nat){d:List D}{xs:List V},dt K F H m d xs->dt K F H m (d.take n) (xs.take n)
 |0,_,_,_=>rfl
 |_+1,[],_,h=>by rw[show _=([]:List V) from h];rfl
 |n+1,_::_,_,h=>by obtain⟨x,r,rfl,a,e⟩:=h;exact⟨x,r.take n,rfl,a,dt.take n e⟩
theorem dt.get:∀{s:List D}{xs:List V}{i:Nat}{d:D},dt K F H m s xs->s[i]? = some d->∃x,xs[i]? = some x/\RD K F H m d x
 | [],_,_,_,_,e=>by simp at e
 |_::_,_,0,_,h,e=>by obtain⟨x,r,rfl,n,_⟩:=h;simp at e;subst e;exact⟨x,rfl,n⟩
 |_::_,_,i+1,d,h,e=>by obtain⟨x,r,rfl,_,k⟩:=h;obtain⟨y,a,f⟩:=dt.get (i:=i) k (by simpa using e);exact⟨y,by simpa using a,f⟩
theorem dt.ofP:∀{d:List P}{xs:List V},cC K F H d xs->dt K F H m (d.map .p) xs
 | [],_,h=>h
 |_::_,_,h=>by obtain⟨x,r,e,a,s⟩:=h;exact⟨x,r,e,a,dt.ofP s⟩
variable{p:Addr}
theorem Rel.fresh_m(r:Rel K F H m S)(h:H p=none):p ∉ m:=λz=>r.trk p z h
theorem Rel.fresh_F(r:Rel K F H m S)(h:H p=none):¬F p:=λz=>r.ft p z h
variable{o:HO}
theorem iU(x:H p=none):Stp F m H F m (bW H p o) where
 pre:=⟨[],by simp⟩
 oth:=λb u h _=>by rw[ao (by rintro rfl;rw[x]at h;cases h)];exact h
 frz:=λ_ h=>h
 frk:=λb u _ h=>by rw[ao (by rintro rfl;rw[x]at h;cases h)];exact h
 tup:=λb u h=>by rw[ao (by rintro rfl;rw[x]at h;cases h)];exact h
 trk:=λb h=>by
  by_cases e:b=p
  .subst e;rw[aE];exact λz=>nomatch z
  .rw [ao e];exact h
 nf:=λ_ h=>.inl h
 nm:=λ_ h=>.inl h
theorem RO.kp(s:Kp F m H F' m' H'){a:Addr}{o:SO}(k:∀u,H a=some u->H' a=some u)(h:RO K F H m a o):RO K F' H' m' a o:=by
 cases o with
 |lst d=>obtain⟨xs,e,r⟩:=h;exact⟨xs,k _ e,dt.kp s r⟩
 |dct b d=>obtain⟨x,e,f,r⟩:=h;exact⟨x,k _ e,f,dt.kp s r⟩
 |fz v=>exact RP.kp s (show RP K F H v (.ref a) from h)
 |ins c b d=>obtain⟨C,t,x,n,e,f,r⟩:=h;exact⟨C,t,x,n,k _ e,f,dt.kp s r⟩
 |dtt b d=>obtain⟨x,e,f,r⟩:=h;exact⟨x,k _ e,f,dt.kp s r⟩
 |exc c=>obtain⟨C,n,e⟩:=h;exact⟨C,n,k _ e⟩
theorem RO.mono(s:Stp F m H F' m' H'){a:Addr}{o:SO}(k:∀u,H a=some u->H' a=some u)(h:RO K F H m a o):RO K F' H' m' a o:=RO.kp s.kp k h
theorem Rel.stayK(r:Rel K F H m S)(s:Kp F m H F' m H')(k:∀a u,a ∈ m->H a=some u->H' a=some u)(n:∀a,F' a->F a\/H a=none)(t:∀a,F' a->H' a≠none):Rel K F' H' m S where
 len:=r.len
 nd:=r.nd
 obj:=λi a o e x=>(r.obj i a o e x).kp s λu h=>k a u (bL e) h
 sep:=λi a o e x w f=>by
  rcases n a f with f|f
  .exact r.sep i a o e x w f
  .exact r.trk a (bL e) f
 trk:=λa h=>by
  cases q:H a with
  |none=>exact absurd q (r.trk a h)
  |some u=>rw[k a u h q];exact λz=>nomatch z
 ft:=t
theorem Rel.stay(r:Rel K F H m S)(s:Stp F m H F' m H')(k:∀a u,a ∈ m->H a=some u->H' a=some u)(n:∀a,F' a->F a\/H a=none)(t:∀a,F' a->H' a≠none):Rel K F' H' m S where
 len:=r.len
 nd:=r.nd
 obj:=λi a o e x=>(r.obj i a o e x).mono s λu h=>k a u (bL e) h
 sep:=λi a o e x w f=>by
  rcases n a f with f|f
  .exact r.sep i a o e x w f
  .exact r.trk a (bL e) f
 trk:=λa h=>s.trk a (r.trk a h)
 ft:=t
theorem Rel.new(r:Rel K F H m S)(x:H p=none):Rel K F (bW H p o) m S:=
 r.stay (iU x) (λa u e h=>by rw[ao (by rintro rfl;exact r.fresh_m x e)];exact h) (λ_ f=>.inl f) λa f=>(iU (F:=F) (m:=m) x).trk a (r.ft a f)
theorem fw{p:Addr}{o:HO}(x:H p=none):Stp F m H F (m++[p]) (bW H p o) where
 pre:=⟨[p],rfl⟩
 oth:=(iU (F:=F) (m:=m) (o:=o) x).oth
 frz:=λ_ h=>h
 frk:=(iU (F:=F) (m:=m) (o:=o) x).frk
 tup:=(iU (F:=F) (m:=m) (o:=o) x).tup
 trk:=(iU (F:=F) (m:=m) (o:=o) x).trk
 nf:=λ_ h=>.inl h
 nm:=λb h=>by
  rcases dA.mp h with h|h
  .exact .inl h
  .have:b=p:=by simpa using h
   subst this;exact .inr x
theorem Rel.own(r:Rel K F H m S){p:Addr}{o:HO}{so:SO}(n:H p=none)(q:RO K F (bW H p o) (m++[p]) p so):Rel K F (bW H p o) (m++[p]) (S++[so]) where
 len:=by rw[b_,b_,r.len];rfl
 nd:=by
  rw[List.nodup_append];refine⟨r.nd,by simp,λa c b t e=>?_⟩;have:b=p:=by simpa using t
  subst this;subst e;exact r.fresh_m n c
 obj:=λi a u x s=>by
  by_cases k:i < m.length
  .rw [List.getElem?_append_left k]at x;rw[List.getElem?_append_left (by rw[<- r.len];exact k)]at s;exact(r.obj i a u x s).mono (fw n) λw h=>by rw[ao (by rintro rfl;rw[n]at h;cases h)];exact h
  .have l:i=m.length:=by
    have:=(List.getElem?_eq_some_iff.mp x).1;rw[b_]at this;simp at this;lia
   subst l;rw[fK (Nat.le_refl _)]at x;rw[r.len,fK (Nat.le_refl _)]at s;simp at x s;subst x;subst s;exact q
 sep:=λi a u x s w f=>by
  by_cases k:i < m.length
  .rw [List.getElem?_append_left k]at x;rw[List.getElem?_append_left (by rw[<- r.len];exact k)]at s;exact r.sep i a u x s w f
  .have l:i=m.length:=by
    have:=(List.getElem?_eq_some_iff.mp x).1;rw[b_]at this;simp at this;lia
   subst l;rw[fK (Nat.le_refl _)]at x;simp at x;subst x;exact r.fresh_F n f
 trk:=λa h=>by
  rcases dA.mp h with h|h
  .exact (fw (F:=F) (m:=m) n).trk a (r.trk a h)
  .have:a=p:=by simpa using h
   subst this;rw[aE];exact λz=>nomatch z
 ft:=λa f=>(fw (F:=F) (m:=m) n).trk a (r.ft a f)
variable{i:Nat}
theorem fR(r:Rel K F H m S)(x:m[i]? = some p)(s:S[i]? = some k)(hw:k.own)(t:∀xs,H p≠some (.tup xs)):Stp F m H F m (bW H p o) where
 pre:=⟨[],by simp⟩
 oth:=λb u h a=>by rw[ao (by rintro rfl;exact a (bL x))];exact h
 frz:=λ_ h=>h
 frk:=λb u f h=>by rw[ao (by rintro rfl;exact r.sep i _ k x s hw f)];exact h
 tup:=λb xs h=>by rw[ao (by rintro rfl;exact t xs h)];exact h
 trk:=λb h=>by
  by_cases e:b=p
  .subst e;rw[aE];exact λz=>nomatch z
  .rw [ao e];exact h
 nf:=λ_ h=>.inl h
 nm:=λ_ h=>.inl h
theorem tJ(h:m.Nodup)(e:m[i]? = some a)(x:m[k]? = some a):i=k:=by exact(List.getElem?_inj (List.getElem?_eq_some_iff.mp e).1 h).mp (e.trans x.symm)
theorem Rel.set(r:Rel K F H m S){i:Nat}{p:Addr}{c b:SO}{o:HO}(s:m[i]? = some p)(k:S[i]? = some c)(hw:c.own)(t:∀xs,H p≠some (.tup xs))(q:RO K F (bW H p o) m p b) :
  Rel K F (bW H p o) m (S.set i b) where
 len:=by rw[dZ];exact r.len
 nd:=r.nd
 obj:=λj a u e x=>by
  by_cases n:i=j
  .subst n;rw[s]at e;cases e;rw[dX (by exact(List.getElem?_eq_some_iff.mp k).1)]at x;cases x;exact q
  .rw [aX n]at x;exact(r.obj j a u e x).mono (fR r s k hw t) λw h=>by rw[ao (by rintro rfl;exact n (tJ r.nd s e))];exact h
 sep:=λj a u e x w f=>by
  by_cases n:i=j
  .subst n;rw[s]at e;cases e;exact r.sep i p c s k hw f
  .rw [aX n]at x;exact r.sep j a u e x w f
 trk:=λa h=>(fR (o:=o) r s k hw t).trk a (r.trk a h)
 ft:=λa f=>(fR (o:=o) r s k hw t).trk a (r.ft a f)
theorem rf(x:p ∈ m):Stp F m H (λb=>F b\/b=p) m H:=
 ⟨⟨[],by simp⟩,fun _ _ h _=>h,fun _ h=>.inl h,fun _ _ _ h=>h,fun _ _ h=>h,fun _ h=>h,fun b h=>by
  rcases h with h|h
  .exact .inl h
  .subst h;exact .inr (.inr x),λ_ h=>.inl h⟩
theorem Rel.frz(r:Rel K F H m S){i:Nat}{p:Addr}{c:SO}{v:P}(n:m[i]? = some p)(k:S[i]? = some c)(o:RP K (λb=>F b\/b=p) H v (.ref p)):Rel K (λb=>F b\/b=p) H m (S.set i (.fz v)) where
 len:=by rw[dZ];exact r.len
 nd:=r.nd
 obj:=λj a u x e=>by
  by_cases s:i=j
  .subst s;rw[n]at x;cases x;rw[dX (by exact(List.getElem?_eq_some_iff.mp k).1)]at e;cases e;exact o
  .rw [aX s]at e;exact(r.obj j a u x e).mono (rf (bL n)) λw h=>h
 sep:=λj a u x e w f=>by
  by_cases s:i=j
  .subst s;rw[dX (by exact(List.getElem?_eq_some_iff.mp k).1)]at e;cases e;exact w
  .rw [aX s]at e;rcases f with f|f
   .exact r.sep j a u x e w f
   .subst f;exact s (tJ r.nd n x)
 trk:=r.trk
 ft:=λa f=>by
  rcases f with f|f
  .exact r.ft a f
  .subst f;exact r.trk _ (bL n)
end
noncomputable abbrev EE:=Lc->aD->Option (D×aD)
noncomputable abbrev EV:=Lc->aD->Option (P×aD)
noncomputable abbrev EB:=Lc->aD->Option (Bool×aD)
noncomputable abbrev gC:=Lc->aD->Option (List P×aD)
inductive Fl where
 |nx|rt (d:D)|bk|ct
noncomputable abbrev ES:=Lc->aD->Option (Fl×Lc×aD)
variable{q:Type}{β:Type}
noncomputable def aG(x:Option (q×aD))(f:q->aD->Option β):Option β:=match x with
 |some (a,S)=>f a S
 |none=>none
@[simp] theorem av(a:q)(S:aD)(f:q->aD->Option β):aG (some (a,S)) f=f a S:=rfl
@[simp] theorem IL(f:q->aD->Option β):aG none f=none:=rfl
theorem ai{q β:Type}{x:Option (q×aD)}{f:q->aD->Option β}{r:β}(h:aG x f=some r):∃a S,x=some (a,S)/\f a S=some r:=by
 cases x with
 |none=>cases h
 |some p=>exact⟨p.1,p.2,rfl,h⟩
def rO(f:D->aD->Option (P×aD)):List D->aD->Option (List P×aD)
 | [],S=>some ([],S)
 |d::r,S=>aG (f d S) λv h=>aG (rO f r h) λs x=>some (v::s,x)
def toP:Nat->D->aD->Option (P×aD)
 |_,.p v,S=>some (v,S)
 |0,.ref _,_=>none
 |n+1,.ref i,S=>match S[i]? with
  |some (.lst d)=>aG (rO (toP n) d S) λs h=>some (.lst s,h.set i (.fz (.lst s)))
  |some (.dct k d)=>aG (rO (toP n) d S) λs h=>some (.dct k s,h.set i (.fz (.dct k s)))
  |some (.fz v)=>some (v,S)
  |some (.ins _ _ _)=>none
  |some (.exc _)=>none
  |some (.dtt _ _)=>none
  |none=>none
@[simp] theorem GH(n:Nat)(v:P)(S:aD):toP n (.p v) S=some (v,S):=by cases n<;>rfl
theorem kY(n:Nat):∀(s:List P)(S:aD),rO (toP n) (s.map .p) S=some (s,S)
 | [],_=>rfl
 |v::r,S=>by simp[rO,kY n r S]
variable{n:Nat}{S:aD}
theorem dP(h:S[i]? = some (.lst (k.map .p))):toP (n+1) (.ref i) S=some (.lst k,S.set i (.fz (.lst k))):=by simp[toP,h,kY]
section
variable{K:FG}{F:Aa}{H:Hp}{m:List Addr}{S O:aD}
theorem rN 
  (k:∀{d:D}{x:V}{v:P}{F:Aa}{S O:aD},f d S=some (v,O)->Rel K F H m S->RD K F H m d x->∃F',Stp F m H F' m H/\Rel K F' H m O/\O.length=S.length/\RP K F' H v x) :
  ∀{a:List D}{xs:List V}{s:List P}{F:Aa}{S O:aD},rO f a S=some (s,O)->Rel K F H m S->dt K F H m a xs->∃F',Stp F m H F' m H/\Rel K F' H m O/\O.length=S.length/\cC K F' H s xs
 | [],xs,s,F,S,O,h,r,n=>by cases h;exact⟨F,.refl,r,rfl,n⟩
 |d::a,xs,s,F,S,O,h,r,n=>by obtain⟨x,z,e,q,w⟩:=n;obtain⟨v,o,t,h⟩:=ai h;obtain⟨C,A,p,h⟩:=ai h;cases h;obtain⟨Y,b,j,l,g⟩:=k t r q;obtain⟨B,c,y,u,i⟩:=rN k p j (dt.mono b w);exact⟨B,b.trans c,y,u.trans l,x,z,e,RP.mono c g,i⟩
theorem nK:∀(n:Nat){d:D}{x:V}{v:P}{F:Aa}{S O:aD},toP n d S=some (v,O)->Rel K F H m S->RD K F H m d x->∃F',Stp F m H F' m H/\Rel K F' H m O/\O.length=S.length/\RP K F' H v x
 |n,.p w,x,v,F,S,O,h,r,p=>by rw[GH]at h;cases h;exact⟨F,.refl,r,rfl,p⟩
 |0,.ref i,x,v,F,S,O,h,r,p=>by cases h
 |n+1,.ref i,x,v,F,S,O,h,r,p=>by
  obtain⟨a,e,k⟩:=p;subst e;have t:i < S.length:=by rw[<- r.len];exact(List.getElem?_eq_some_iff.mp k).1
  obtain⟨o,I⟩:∃o,S[i]? = some o:=⟨S[i],by simp[t]⟩;have y:=r.obj i a o k I;simp only[toP,I]at h;cases o with
  |fz w=>cases h;exact⟨F,.refl,r,rfl,y⟩
  |ins c J G=>cases h
  |exc c=>cases h
  |dtt _ _=>cases h
  |lst G=>obtain⟨E,f,u,h⟩:=ai h;cases h;obtain⟨xs,g,B⟩:=y;obtain⟨Y,C,A,l,z⟩:=rN (λh=>nK n h) u r B;obtain⟨M,s⟩:∃o,f[i]? = some o:=⟨f[i]'(by rw[l];exact t),by simp[l,t]⟩;have Q:Stp Y m H (λb=>Y b\/b=a) m H:=rf (bL k);have q:RP K (λb=>Y b\/b=a) H (.lst E) (.ref a):=⟨a,xs,rfl,⟨.inr rfl,g⟩,cC.mono Q z⟩;exact⟨_,C.trans Q,A.frz k s q,by rw[dZ];exact l,q⟩
  |dct J G=>obtain⟨E,f,u,h⟩:=ai h;cases h;obtain⟨j,g,L,B⟩:=y;obtain⟨Y,C,A,l,z⟩:=rN (λh=>nK n h) u r B;obtain⟨M,s⟩:∃o,f[i]? = some o:=⟨f[i]'(by rw[l];exact t),by simp[l,t]⟩;have Q:Stp Y m H (λb=>Y b\/b=a) m H:=rf (bL k);have q:RP K (λb=>Y b\/b=a) H (.dct J E) (.ref a):=⟨a,j,rfl,.inr rfl,g,L,cC.mono Q z⟩;exact⟨_,C.trans Q,A.frz k s q,by rw[dZ];exact l,q⟩
end
structure Grow(F:Aa)(H:Hp)(F':Aa)(H':Hp):Prop where
 keep:∀b o,H b=some o->H' b=some o
 frz:∀b,F b->F' b
 nf:∀b,F' b->F b\/(H b=none/\H' b≠none)
section
variable{K:FG}{F F' Y B:Aa}{H H' I U:Hp}{m:List Addr}{S O:aD}
theorem Grow.refl:Grow F H F H:=⟨λ_ _ h=>h,λ_ h=>h,λ_ h=>.inl h⟩
theorem Grow.stp(g:Grow F H F' H'):Stp F m H F' m H' where
 pre:=⟨[],by simp⟩
 oth:=λb o h _=>g.keep b o h
 frz:=g.frz
 frk:=λb o _ h=>g.keep b o h
 tup:=λb xs h=>g.keep b _ h
 trk:=λb h=>by
  cases q:H b with
  |none=>exact absurd q h
  |some o=>rw[g.keep b o q];exact λz=>nomatch z
 nf:=λb h=>by
  rcases g.nf b h with h|⟨h,_⟩
  .exact .inl h
  .exact .inr (.inl h)
 nm:=λ_ h=>.inl h
theorem Rel.grow(r:Rel K F H m S)(g:Grow F H F' H'):Rel K F' H' m S:=
 r.stay g.stp (fun a u _ h=>g.keep a u h) (fun a f=>by
  rcases g.nf a f with f|⟨f,_⟩
  .exact .inl f
  .exact .inr f) λa f=>by
  rcases g.nf a f with f|⟨_,f⟩
  .exact (g.stp (m:=m)).trk a (r.ft a f)
  .exact f
theorem cx{p:Addr}{o:HO}(x:H p=none):Grow F H F (bW H p o):=
 ⟨λb u h=>by rw[ao (by rintro rfl;rw[x]at h;cases h)];exact h,λ_ h=>h,λ_ h=>.inl h⟩
theorem cy{p:Addr}{o:HO}(x:H p=none):Grow F H (λb=>F b\/b=p) (bW H p o):=
 ⟨fun b u h=>by rw [ao (by rintro rfl;rw [x] at h;cases h)];exact h,fun _ h=>.inl h,fun b h=>by
  rcases h with h|h
  .exact .inl h
  .subst h;exact .inr ⟨x,by rw[aE];exact λz=>nomatch z⟩⟩
theorem RP.grow(g:Grow F H F' H')(h:RP K F H d v):RP K F' H' d v:=RP.mono (m:=[]) g.stp h
theorem cC.grow(g:Grow F H F' H')(h:cC K F H d v):cC K F' H' d v:=cC.mono (m:=[]) g.stp h
theorem RP.newTup(x:H p=none)(r:cC K F H h xs):RP K F (bW H p (.tup xs)) (.tup h) (.ref p):=⟨p,xs,rfl,.inl aE,r.grow (cx x)⟩
theorem RP.newLst(x:H p=none)(r:cC K F H h xs):RP K (λb=>F b\/b=p) (bW H p (.lst xs)) (.lst h) (.ref p):=⟨p,xs,rfl,⟨.inr rfl,aE⟩,r.grow (cy x)⟩
end
noncomputable def vC(v:P):EV:=λ_ S=>some (v,S)
noncomputable def aa(i:Nat):EE:=λL S=>match L[i]? with
 |some (some d)=>some (d,S)
 |_=>none
def vE(f:EE):EV:=λL S=>aG (f L S) (toP 9)
def eV(f:EV):EE:=λL S=>aG (f L S) λv h=>some (.p v,h)
def ac(g:P->P->Option P)(a b:EV):EV:=λL S=>aG (a L S) λx h=>aG (b L h) λy e=>(g x y).map λv=>(v,e)
def yI(g:P->Option P)(a:EV):EV:=λL S=>aG (a L S) λx h=>(g x).map λv=>(v,h)
def bV(a:EV):EB:=λL S=>aG (a L S) λx h=>match x with
 | .bl b=>some (b,h)
 |_=>none
def g8(a b:EB):EB:=λL S=>aG (a L S) λc h=>if c=true then b L h else some (false,h)
def uO(a b:EB):EB:=λL S=>aG (a L S) λc h=>if c=true then some (true,h) else b L h
def oS(a:EB):EB:=λL S=>aG (a L S) λc h=>some (!c,h)
def vB(a:EB):EV:=λL S=>aG (a L S) λc h=>some (.bl c,h)
def CC(c:EB)(a b:EV):EV:=λL S=>aG (c L S) λk h=>if k=true then a L h else b L h
noncomputable def aN:gC:=λ_ S=>some ([],S)
def aL(a:EV)(r:gC):gC:=λL S=>aG (a L S) λx h=>aG (r L h) λxs e=>some (x::xs,e)
def ah(g:List P->Option P)(a:gC):EV:=λL S=>aG (a L S) λxs h=>(g xs).map λv=>(v,h)
noncomputable def ff:ES:=λL S=>some (.nx,L,S)
noncomputable def af(f g:ES):ES:=λL S=>match f L S with
 |some (.nx,h,x)=>g h x
 |r=>r
def am(i:Nat)(f:EE):ES:=λL S=>aG (f L S) λd h=>some (.nx,L.set i (some d),h)
def aI(f:EE):ES:=λL S=>aG (f L S) λd h=>some (.rt d,L,h)
def bN(f:EE):ES:=λL S=>aG (f L S) λ_ h=>some (.nx,L,h)
def dW(c:EB)(a b:ES):ES:=λL S=>aG (c L S) λk h=>if k=true then a L h else b L h
noncomputable def rj:ES:=λ_ _=>none
noncomputable abbrev jf:=P->Lc->Option Lc
noncomputable def ak(i:Nat):jf:=λv L=>some (L.set i (some (.p v)))
noncomputable def aR(g:jf)(b:ES):List P->Lc->aD->Option (Fl×Lc×aD)
 | [],L,S=>some (.nx,L,S)
 |v::r,L,S=>match g v L with
  |none=>none
  |some a=>match b a S with
   |some (.nx,L2,h)=>aR g b r L2 h
   |some (.ct,L2,h)=>aR g b r L2 h
   |some (.bk,L2,h)=>some (.nx,L2,h)
   |x=>x
def cb(i:gC)(g:jf)(b:ES):ES:=λL S=>aG (i L S) λxs h=>aR g b xs L h
open PySem PySem.Spec PyProof.Rows L2
section
variable(K:FG)
structure RL(F:Aa)(H:Hp)(m:List Addr)(σ:L2.St)(L:Lc):Prop where
 len:σ.length=L.length
 at':∀(i:Nat) d,L[i]? = some (some d)->∃v,σ[i]? = some (some v)/\RD K F H m d v
inductive tEI(f:EE)(σ:L2.St)(H:Hp)(Q:VK):Prop
 |mk (F:Aa) (m:List Addr) (L:Lc) (S:aD) (d:D) (S':aD) (h0_:Rel K F H m S) (h1_:RL K F H m σ L) (h2_:f L S=some (d,S')) (h3_:∀v F' m' H',Stp F m H F' m' H'->Rel K F' H' m' S'->RD K F' H' m' d v->Q v H'):tEI f σ H Q
noncomputable def tE(f:EE):TE:=λM H Q=>tEI K f M H Q
inductive tVI(f:EV)(σ:L2.St)(H:Hp)(Q:VK):Prop
 |mk (F:Aa) (m:List Addr) (L:Lc) (S:aD) (d:P) (S':aD) (h0_:Rel K F H m S) (h1_:RL K F H m σ L) (h2_:f L S=some (d,S')) (h3_:∀v F' m' H',Stp F m H F' m' H'->Rel K F' H' m' S'->RP K F' H' d v->Q v H'):tVI f σ H Q
noncomputable def tV(f:EV):TE:=λM H Q=>tVI K f M H Q
inductive tQI(f:EB)(σ:L2.St)(H:Hp)(Q:Bool->Hp->Prop):Prop
 |mk (F:Aa) (m:List Addr) (L:Lc) (S:aD) (b:Bool) (S':aD) (h0_:Rel K F H m S) (h1_:RL K F H m σ L) (h2_:f L S=some (b,S')) (h3_:∀F' m' H',Stp F m H F' m' H'->Rel K F' H' m' S'->Q b H'):tQI f σ H Q
noncomputable def tQ(f:EB):TT:=λM H Q=>tQI K f M H Q
inductive tVsI(f:gC)(σ:L2.St)(H:Hp)(Q:List V->Hp->Prop):Prop
 |mk (F:Aa) (m:List Addr) (L:Lc) (S:aD) (ds:List P) (S':aD) (h0_:Rel K F H m S) (h1_:RL K F H m σ L) (h2_:f L S=some (ds,S')) (h3_:∀xs F' m' H',Stp F m H F' m' H'->Rel K F' H' m' S'->cC K F' H' ds xs->Q xs H'):tVsI f σ H Q
noncomputable def oY(f:gC):TA:=λM H Q=>tVsI K f M H Q
def Kw(D:Ends)(F:Aa)(m:List Addr)(M:L2.St)(H:Hp):Fl->Prop
 | .nx=>D.nx M H
 | .bk=>D.bk M H
 | .ct=>D.ct M H
 | .rt d=>∀v,RD K F H m d v->D.rt v H
inductive tStI(f:ES)(D:Ends)(σ:L2.St)(H:Hp):Prop
 |mk (F:Aa) (m:List Addr) (L:Lc) (S:aD) (fl:Fl) (L':Lc) (S':aD) (h0_:Rel K F H m S) (h1_:RL K F H m σ L) (h2_:f L S=some (fl,L',S')) (h3_:∀σ' F' m' H',Stp F m H F' m' H'->Rel K F' H' m' S'->RL K F' H' m' σ' L'->Kw K D F' m' σ' H' fl):tStI f D σ H
noncomputable def jn(f:ES):TS:=λD M H=>tStI K f D M H
end
section
variable{K:FG}{F F':Aa}{H H':Hp}{m m':List Addr}{M:L2.St}{L:Lc}{S:aD}
theorem RL.mono(s:Stp F m H F' m' H')(h:RL K F H m M L):RL K F' H' m' M L:=⟨h.len,λi d e=>by obtain⟨v,x,r⟩:=h.at' i d e;exact⟨v,x,RD.mono s r⟩⟩
theorem RL.set (h:RL K F H m M L) (r:RD K F H m d v) (i:Nat):RL K F H m (M.set i (some v)) (L.set i (some d)):=⟨by rw [dZ,dZ];exact h.len,fun j e q=>by
 by_cases x:i=j
 .subst x;by_cases a:i < L.length
  .rw [dX a]at q;cases q;exact⟨v,dX (by rw[h.len];exact a),r⟩
  .rw [qW (by rw[dZ];lia)]at q;cases q
 .rw [aX x]at q;rw[aX x];exact h.at' j e q⟩
end
section
variable{X:Cx}{e:Expr}{C:Ab}{Q:Stmt}{sts:List Stmt}
theorem _root_.L2.PE.imp'(h:PE X e t)(i:∀M H Q,k M H Q->t M H Q):PE X e k:=λp s M H Q I q=>h p s M H Q I (i M H Q q)
theorem _root_.L2.PT.imp'(h:PT X e t)(i:∀M H Q,k M H Q->t M H Q):PT X e k:=λp s M H Q I q=>h p s M H Q I (i M H Q q)
theorem _root_.L2.PW.imp'(h:PW X e t)(i:∀M H Q,k M H Q->t M H Q):PW X e k:=λw p s M H Q I q=>h w p s M H Q I (i M H Q q)
theorem _root_.L2.PA.imp'(h:PA X C t)(i:∀M H Q,k M H Q->t M H Q):PA X C k:=λN p s M H Q I q=>h N p s M H Q I (i M H Q q)
theorem _root_.L2.PS.imp'(h:PS X Q t)(i:∀D M H,k D M H->t D M H):PS X Q k:=λp s M H D I q=>h p s M H D I (i D M H q)
theorem _root_.L2.jW.imp'(h:jW X sts t)(i:∀D M H,k D M H->t D M H):jW X sts k:=λp s M H D I q=>h p s M H D I (i D M H q)
end
section
variable{X:Cx}{a b c e:Expr}{C:Ab}{u z:EV}{l:EE}{N:Pos}
theorem J0(h:PE X e (tE X.K l)):PE X e (tV X.K (vE l)):=h.imp' λM H Q z=>by obtain⟨F,m,L,S,d,O,r,x,q,k⟩:=z;obtain⟨n,a,f,b⟩:=ai q;refine⟨F,m,L,S,n,a,r,x,f,λv F' m' H' s c w=>?_⟩;obtain⟨B,u,t,_,p⟩:=nK 9 b c w;exact k v B m' H' (s.trans u) t p
theorem Fu(h:PE X e (tV X.K u)):PE X e (tE X.K (eV u)):=h.imp' λM H Q z=>by obtain⟨F,m,L,S,d,O,r,l,q,k⟩:=z;obtain⟨x,c,a,n⟩:=ai q;cases n;exact⟨F,m,L,S,x,O,r,l,a,λv F' m' H' s f b=>k v F' m' H' s f b⟩
theorem Gf(i:Nat)(s:X.N[i]? = some x:=by rfl)(n:Db X.env.scope x:=by first|exact Or.inl rfl|exact Or.inr (Or.inl rfl)|exact Or.inr (Or.inr rfl))(hd:(x == ("__debug__":Str))=false:=by decide)
  (h:(x == ("__classdict__":Str))=false:=by decide):PE X (.Name x N) (tE X.K (aa i)):=(zo s n hd h).imp' λM H Q z=>by
 obtain⟨F,m,L,S,d,O,r,l,q,k⟩:=z;unfold aa at q;split at q
 .rename_i b e;cases q;obtain⟨v,a,f⟩:=l.at' i _ e;exact⟨v,a,k v F m H .refl r f⟩
 .cases q
theorem xC(h:PE X e (tC v))(r:∀F H,RP X.K F H d v):PE X e (tV X.K (vC d)):=h.imp' λM H Q z=>by obtain⟨F,m,L,S,a,O,x,l,q,k⟩:=z;cases q;exact k v F m H .refl x (r F H)
theorem Ka {i h N}:PE X (.Constant (.int i) h N) (tV X.K (vC (.int i))):=xC D8 λ_ _=>rfl
theorem Mf {i h N}:PE X (.Constant (.bool i) h N) (tV X.K (vC (.bl i))):=xC Hh λ_ _=>rfl
theorem J5 {h N}:PE X (.Constant .none h N) (tV X.K (vC .non)):=xC D7 λ_ _=>rfl
theorem J2 {i h N}:PE X (.Constant (.str i) h N) (tV X.K (vC (.str i))):=xC D4 λ_ _=>rfl
inductive rPI(K:FG)(g:P->P->Option P)(x:V)(y:V)(H:Hp)(Q:VK):Prop
 |mk (F:Aa) (dx:P) (dy:P) (d:P) (h0_:(∀a,F a->H a≠none)) (h1_:RP K F H dx x) (h2_:RP K F H dy y) (h3_:g dx dy=some d) (h4_:∀v F' H',Grow F H F' H'->RP K F' H' d v->Q v H'):rPI K g x y H Q
noncomputable def rP(K:FG)(g:P->P->Option P):R2:=λx y H Q=>rPI K g x y H Q
def mV(X:Cx)(f:Value->Value->Sem Value)(g:P->P->Option P):Prop:=iI X f (rP X.K g)
theorem q_(h:tV X.K (ac g u z) M H t):DJ (rP X.K g) (tV X.K u) (tV X.K z) M H t:=by
 obtain⟨F,m,L,S,d,O,r,l,q,k⟩:=h;obtain⟨x,n,K,q⟩:=ai q;obtain⟨y,o,P,q⟩:=ai q;refine⟨F,m,L,S,x,n,r,l,K,λv Y A I c J D=>?_⟩;refine⟨Y,A,L,n,y,o,J,l.mono c,P,λa B C U p b E=>?_⟩;cases s:g x y with
 |none=>rw[s]at q;cases q
 |some e=>rw[s]at q;cases q;refine⟨B,x,y,_,b.ft,RP.mono p D,E,s,λw i j f G=>?_⟩;exact k w i C j (c.trans (p.trans f.stp)) (b.grow f) G
theorem Mc(o:mV X (binaryOp k) g)(x:PE X a (tV X.K u))(e:PE X b (tV X.K z)):PE X (.BinOp a k b N) (tV X.K (ac g u z)):=
 (Hg o x e).imp' λ_ _ _ h=>q_ h
theorem Kc(o:mV X (compareOp k) g)(x:PE X a (tV X.K u))(e:PE X b (tV X.K z))(m:behindInMarks k b=false):PE X (.Compare a [k] [b] N) (tV X.K (ac g u z)):=
 (wE o x e m).imp' λ_ _ _ h=>q_ h
theorem yR(h:tQ X.K (bV (ac g u z)) M H t):yS (DJ (rP X.K g) (tV X.K u) (tV X.K z)) M H t:=by
 refine q_ ?_;obtain⟨F,m,L,S,d,O,r,l,q,k⟩:=h;obtain⟨x,n,e,q⟩:=ai q;cases x with
 |bl b=>cases q;exact⟨F,m,L,S,_,_,r,l,e,λv F' m' H' s a p=>⟨_,p,k F' m' H' s a⟩⟩
 |_=>cases q
theorem JX(o:mV X (compareOp k) g)(x:PE X a (tV X.K u))(e:PE X b (tV X.K z))(m:behindInMarks k b=false):PT X (.Compare a [k] [b] N) (tQ X.K (bV (ac g u z))):=
 (wz o x e m).imp' λ_ _ _ h=>yR h
variable{y qb:EB}{bO:Ab}
theorem Gc(h:PT X a (tQ X.K y)):PW X (.BoolOp .And [a] N) (tQ X.K y):=Bx h
theorem JV(h:PT X a (tQ X.K y)):PW X (.BoolOp .Or [a] N) (tQ X.K y):=DU h
theorem JY(n:PT X a (tQ X.K y))(f:PW X (.BoolOp .And (b::bO) N) (tQ X.K qb)):PW X (.BoolOp .And (a::b::bO) N) (tQ X.K (g8 y qb)):=
 (DV n f).imp' λM H Q z=>by
  obtain⟨F,m,L,S,d,O,r,l,q,k⟩:=z;obtain⟨c,h,e,q⟩:=ai q;refine⟨F,m,L,S,c,h,r,l,e,λF' m' H' s x=>?_⟩;cases c with
  |true=>rw[if_pos rfl]at q ⊢;exact⟨F',m',L,h,d,O,x,l.mono s,q,λB t U v p=>k B t U (s.trans v) p⟩
  |false=>rw[if_neg b9]at q ⊢;cases q;exact k F' m' H' s x
theorem Ma(n:PT X a (tQ X.K y))(f:PW X (.BoolOp .Or (b::bO) N) (tQ X.K qb)):PW X (.BoolOp .Or (a::b::bO) N) (tQ X.K (uO y qb)):=
 (Hb n f).imp' λM H Q z=>by
  obtain⟨F,m,L,S,d,O,r,l,q,k⟩:=z;obtain⟨c,h,e,q⟩:=ai q;refine⟨F,m,L,S,c,h,r,l,e,λF' m' H' s x=>?_⟩;cases c with
  |false=>rw[if_neg b9]at q ⊢;exact⟨F',m',L,h,d,O,x,l.mono s,q,λB t U v p=>k B t U (s.trans v) p⟩
  |true=>rw[if_pos rfl]at q ⊢;cases q;exact k F' m' H' s x
theorem JW(h:PT X a (tQ X.K y)):PT X (.UnaryOp .Not a N) (tQ X.K (oS y)):=
 (DW h).imp' λM H Q z=>by obtain⟨F,m,L,S,d,O,r,l,q,k⟩:=z;obtain⟨c,n,e,q⟩:=ai q;cases q;exact⟨F,m,L,S,c,O,r,l,e,λF' m' H' s x=>k F' m' H' s x⟩
theorem Gp {k} (h:PE X a (tV X.K (vB y))):PE X (.BoolOp k [a] N) (tV X.K (vB y)):=D5 h
theorem ti(h:tQ X.K y M H k)(x:∀b H',k b H'->t (.bl b) H'):tV X.K (vB y) M H t:=by obtain⟨F,m,L,S,d,O,r,l,q,a⟩:=h;exact⟨F,m,L,S,.bl d,O,r,l,by unfold vB;rw[q];rfl,λv F' m' H' s e p=>by rw[show v=.bl d from p];exact x _ _ (a F' m' H' s e)⟩
theorem wH(h:tV X.K (vB y) M H k):tQ X.K y M H λb H'=>k (.bl b) H':=by obtain⟨F,m,L,S,d,O,r,l,q,x⟩:=h;obtain⟨c,n,e,q⟩:=ai q;cases q;exact⟨F,m,L,S,c,O,r,l,e,λF' m' H' s a=>x _ F' m' H' s a rfl⟩
theorem Kd(f:PE X a (tV X.K (vB y)))(t:PE X (.BoolOp .And (b::bO) N) (tV X.K (vB qb))):PE X (.BoolOp .And (a::b::bO) N) (tV X.K (vB (g8 y qb))):=
 (D_ f t).imp' λM H Q h=>by
  obtain⟨F,m,L,S,d,O,r,l,q,k⟩:=wH h;obtain⟨c,x,n,q⟩:=ai q;refine ti (k:=λc I=>if c=true then tV X.K (vB qb) M I Q else Q (.bl false) I) ⟨F,m,L,S,c,x,r,l,n,λF' m' H' s e=>?_⟩ λb H' q=>⟨b,rfl,q⟩;cases c with
  |true=>rw[if_pos rfl]at q ⊢;exact ti (k:=λb U=>Q (.bl b) U) ⟨F',m',L,x,d,O,e,l.mono s,q,λB p U w v=>k B p U (s.trans w) v⟩ λ_ _ q=>q
  |false=>rw[if_neg b9]at q ⊢;cases q;exact k F' m' H' s e
theorem Mb(f:PE X a (tV X.K (vB y)))(t:PE X (.BoolOp .Or (b::bO) N) (tV X.K (vB qb))):PE X (.BoolOp .Or (a::b::bO) N) (tV X.K (vB (uO y qb))):=
 (Hf f t).imp' λM H Q h=>by
  obtain⟨F,m,L,S,d,O,r,l,q,k⟩:=wH h;obtain⟨c,x,n,q⟩:=ai q;refine ti (k:=λc I=>if c=true then Q (.bl true) I else tV X.K (vB qb) M I Q) ⟨F,m,L,S,c,x,r,l,n,λF' m' H' s e=>?_⟩ λb H' q=>⟨b,rfl,q⟩;cases c with
  |false=>rw[if_neg b9]at q ⊢;exact ti (k:=λb U=>Q (.bl b) U) ⟨F',m',L,x,d,O,e,l.mono s,q,λB p U w v=>k B p U (s.trans w) v⟩ λ_ _ q=>q
  |true=>rw[if_pos rfl]at q ⊢;cases q;exact k F' m' H' s e
theorem J4(x:PE X a (tV X.K (vB y))):PE X (.UnaryOp .Not a N) (tV X.K (vB (oS y))):=
 (D6 x).imp' λM H Q h=>by obtain⟨F,m,L,S,d,O,r,l,q,k⟩:=wH h;obtain⟨c,f,e,q⟩:=ai q;cases q;exact ti (k:=λb H'=>Q (.bl (!b)) H') ⟨F,m,L,S,c,O,r,l,e,λF' m' H' s n=>k F' m' H' s n⟩ λb H' q=>⟨b,rfl,q⟩
theorem we(h:PE X e (tV X.K u)):PE X e (tV X.K (vB (bV u))):=h.imp' λM H Q h=>by
 obtain⟨F,m,L,S,d,O,r,l,q,k⟩:=wH h;obtain⟨x,f,a,q⟩:=ai q;cases x with
 |bl b=>cases q;exact⟨F,m,L,S,_,_,r,l,a,λv F' m' H' s n p=>by cases (show v=.bl d from p);exact k F' m' H' s n⟩
 |_=>cases q
theorem Me(g:PT X c (tQ X.K y))(p:PE X a (tV X.K u))(w:PE X b (tV X.K z)):PE X (.IfExp c a b N) (tV X.K (CC y u z)):=
 (zv g p w).imp' λM H Q i=>by
  obtain⟨F,m,L,S,d,O,r,l,q,k⟩:=i;obtain⟨c,h,t,q⟩:=ai q;refine⟨F,m,L,S,c,h,r,l,t,λF' m' H' s f=>?_⟩;cases c with
  |true=>rw[if_pos rfl]at q ⊢;exact⟨F',m',L,h,d,O,f,l.mono s,q,λv B x U n e=>k v B x U (s.trans n) e⟩
  |false=>rw[if_neg b9]at q ⊢;exact⟨F',m',L,h,d,O,f,l.mono s,q,λv B x U n e=>k v B x U (s.trans n) e⟩
variable{fs:gC}
theorem Fo:PA X [] (oY X.K aN):=gm.imp' λM H Q h=>by obtain⟨F,m,L,S,d,O,r,l,q,k⟩:=h;cases q;exact k [] F m H .refl r rfl
theorem C_(c:PE X e (tV X.K u))(t:PA X C (oY X.K fs))(p:starEach (e::C) X.env=(false,eval e X.env)::starEach C X.env:=by rfl):PA X (e::C) (oY X.K (aL u fs)):=
 (dR c t p).imp' λM H Q z=>by obtain⟨F,m,L,S,d,O,r,l,q,k⟩:=z;obtain⟨x,h,f,q⟩:=ai q;obtain⟨xs,K,b,q⟩:=ai q;cases q;refine⟨F,m,L,S,x,h,r,l,f,λv Y w I s y i=>?_⟩;refine⟨Y,w,L,h,xs,O,y,l.mono s,b,λn B g U a o j=>?_⟩;exact k (v::n) B g U (s.trans a) o ⟨v,n,rfl,RP.mono a i,j⟩
noncomputable def few(xs:List q):Bool:=decide (xs.length≤1000000)
theorem kG{q:Type}{xs:List q}(h:few xs=true):xs.length≤sizeLine:=aU (aS h) (by decide)
def aw(a:gC):EV:=λL S=>aG (a L S) λxs h=>if few xs=true then some (.tup xs,h) else none
def aP(a:gC):EV:=λL S=>aG (a L S) λxs h=>if few xs=true then some (.lst xs,h) else none
def cD(a:gC):EE:=λL S=>aG (a L S) λxs h=>if few xs=true then some (.ref h.length,h++[.lst (xs.map .p)]) else none
theorem J1 {t} (h:PA X C (oY X.K fs)):PE X (.Tuple C t N) (tV X.K (aw fs)):=(rF h).imp' λM H Q z=>by
 obtain⟨F,m,L,S,d,O,r,l,q,k⟩:=z;obtain⟨xs,c,e,q⟩:=ai q;split at q
 .rename_i f;cases q;refine⟨F,m,L,S,xs,O,r,l,e,λv Y s I b n a=>⟨by rw[<- a.length];exact kG f,λp x=>?_⟩⟩;exact k (.ref p) Y s _ (b.trans (cx x).stp) (n.grow (cx x)) (.newTup x a)
 .cases q
theorem J8(h:PA X C (oY X.K fs)):PE X (.List C N) (tV X.K (aP fs)):=(zt h).imp' λM H Q z=>by
 obtain⟨F,m,L,S,d,O,r,l,q,k⟩:=z;obtain⟨xs,c,e,q⟩:=ai q;split at q
 .rename_i f;cases q;refine⟨F,m,L,S,xs,O,r,l,e,λv Y s I b n a=>⟨by rw[<- a.length];exact kG f,λp x=>?_⟩⟩;exact k (.ref p) _ s _ (b.trans (cy x).stp) (n.grow (cy x)) (.newLst x a)
 .cases q
theorem CA(h:PA X C (oY X.K fs)):PE X (.List C N) (tE X.K (cD fs)):=(zt h).imp' λM H Q z=>by
 obtain⟨F,m,L,S,d,O,r,l,q,k⟩:=z;obtain⟨xs,f,b,q⟩:=ai q;split at q
 .rename_i c;cases q;refine⟨F,m,L,S,xs,f,r,l,b,λv Y x I t s e=>⟨by rw[<- e.length];exact kG c,λp a=>?_⟩⟩;have n:Stp Y x I Y (x++[p]) (bW I p (.lst v)):=fw a;refine k (.ref p) Y (x++[p]) _ (t.trans n) (s.own a ⟨v,aE,dt.ofP (cC.mono n e)⟩) ⟨p,rfl,?_⟩;rw[<- s.len,fK (Nat.le_refl _)];simp
 .cases q
def rC(K:FG)(g:List P->Option P):List V->Hp->VK->Prop:=λxs H Q=>∃F s d,(∀a,F a->H a≠none)/\cC K F H s xs/\g s=some d/\∀v F' H',Grow F H F' H'->RP K F' H' d v->Q v H'
theorem vb(h:tV X.K (ah g fs) M H t):oY X.K fs M H λs I=>rC X.K g s I t:=by
 obtain⟨F,m,L,S,d,O,r,l,q,k⟩:=h;obtain⟨xs,w,n,q⟩:=ai q;cases e:g xs with
 |none=>rw[e]at q;cases q
 |some z=>rw[e]at q;cases q;exact⟨F,m,L,S,xs,_,r,l,n,λs Y f I c a b=>⟨Y,xs,_,a.ft,b,e,λv B U x p=>k v B f U (c.trans x.stp) (a.grow x) p⟩⟩
theorem Dx{x:Str}{p:Pos}{id:String}{g:List P->Option P}(c:dU X (.builtin id) (rC X.K g))(n:Gl X x)(m:X.mg x=none)(v:bootBuiltins x=some (.builtin id))(a:PA X (e::C) (oY X.K fs))(k:x≠"__name__":=by decide)(d:(x == ("__debug__":Str))=false:=by decide)
  (s:starEach (e::C) X.env=(false,eval e X.env)::starEach C X.env:=by rfl) (l:(backTo N (starEach C X.env)).any (·.1)=false:=by rfl):PE X (.Call (.Name x p) (e::C) [] N) (tV X.K (ah g fs)):=
 (jD c n m v a k d s l).imp' λ_ _ _ h=>vb h
theorem u1(c:dU X (.type k) (rC X.K g))(n:Gl X x)(m:X.mg x=none)(v:bootBuiltins x=some (.type k))(a:PA X (e::C) (oY X.K fs))(f:x≠"__name__":=by decide)(d:(x == ("__debug__":Str))=false:=by decide)
  (s:starEach (e::C) X.env=(false,eval e X.env)::starEach C X.env:=by rfl) (l:(backTo N (starEach C X.env)).any (·.1)=false:=by rfl):PE X (.Call (.Name x p) (e::C) [] N) (tV X.K (ah g fs)):=
 (jZ c n m v a f d s l).imp' λ_ _ _ h=>vb h
noncomputable def Je(K:FG)(g:List P->Option P):Sp:=λv H Q _=>rC K g v H Q
theorem Go(G:FnOk X.prog X.w X.K X.mg X.base qy k f t ps (Je X.K g))(j:Room k X.A)(w:Gl X x)(i:X.mg x=some (.ref f))(u:PySem.W.keepIn X.K (.ref f)=true)(c:Binds X.K t ps [])
  (b:PA X (e::C) (oY X.K fs)) (d:(x == ("__debug__":Str))=false:=by decide) (v:starEach (e::C) X.env=(false,eval e X.env)::starEach C X.env:=by rfl) (a:(backTo N (starEach C X.env)).any (·.1)=false:=by rfl) :
  PE X (.Call (.Name x p) (e::C) [] N) (tV X.K (ah g fs)):=
 (rG G j w i u c .nil pU b d v a).imp' λM H Q h=>by obtain⟨F,m,L,S,n,O,r,l,q,k⟩:=vb h;exact⟨F,m,L,S,n,O,r,l,q,λxs F' m' H' s y p=>by show Je X.K g (xs++[]) H' Q E0;rw[List.append_nil];exact k xs F' m' H' s y p⟩
end
section
variable{X:Cx}{a b e:Expr}{Q:Stmt}{bO bs cs:List Stmt}{f g:ES}{l:EE}{y:EB}{N:Pos}
theorem JS:jW X [] (jn X.K ff):=By.imp' λD M H h=>by obtain⟨F,m,L,S,f,x,O,r,l,q,k⟩:=h;cases q;exact k M F m H .refl r l
theorem F7(j:PS X Q (jn X.K f))(y:jW X bO (jn X.K g)):jW X (Q::bO) (jn X.K (af f g)):=(kU j y).imp' λD M H z=>by
 obtain⟨F,m,L,S,w,v,O,r,l,q,k⟩:=z;cases e:f L S with
 |none=>rw[show af f g L S=none by unfold af;rw[e]]at q;cases q
 |some x=>
  obtain⟨u,t,p⟩:=x;cases u with
  |nx=>
   have n:g t p=some (w,v,O):=by have:=q;unfold af at this;rw[e]at this;exact this
   exact⟨F,m,L,S,.nx,t,p,r,l,e,λh Y s I c b a=>⟨Y,s,t,p,w,v,O,b,a,n,λi B K U A P o=>k i B K U (c.trans A) P o⟩⟩
  |rt d=>
   have n:some (Fl.rt d,t,p)=some (w,v,O):=by have:=q;unfold af at this;rw[e]at this;exact this
   cases n;exact⟨F,m,L,S,_,_,_,r,l,e,λh Y s I c b a=>k h Y s I c b a⟩
  |bk=>
   have n:some (Fl.bk,t,p)=some (w,v,O):=by have:=q;unfold af at this;rw[e]at this;exact this
   cases n;exact⟨F,m,L,S,_,_,_,r,l,e,λh Y s I c b a=>k h Y s I c b a⟩
  |ct=>
   have n:some (Fl.ct,t,p)=some (w,v,O):=by have:=q;unfold af at this;rw[e]at this;exact this
   cases n;exact⟨F,m,L,S,_,_,_,r,l,e,λh Y s I c b a=>k h Y s I c b a⟩
theorem Dg(h:PS X Q (jn X.K f)):jW X [Q] (jn X.K f):=rk h
theorem JQ(h:PE X e (tE X.K l)):PS X (.Return (some e) N) (jn X.K (aI l)):=(zg h).imp' λD M H z=>by obtain⟨F,m,L,S,c,f,O,r,x,q,k⟩:=z;obtain⟨d,b,a,q⟩:=ai q;cases q;exact⟨F,m,L,S,d,O,r,x,a,λv F' m' H' s n p=>k M F' m' H' s n (x.mono s) v p⟩
theorem F6(h:PE X e (tE X.K l))(n:swapsWith e none N.line X.env=pure false:=by rfl):PS X (.Expr e N) (jn X.K (bN l)):=(Bz h n).imp' λD M H z=>by obtain⟨F,m,L,S,t,b,O,r,x,q,k⟩:=z;obtain⟨d,c,a,q⟩:=ai q;cases q;exact⟨F,m,L,S,d,O,r,x,a,λv F' m' H' s f p=>k M F' m' H' s f (x.mono s)⟩
theorem uZ(i:Nat)(f:X.N.Nodup)(h:PE X e (tE X.K l))(c:X.N[i]? = some x:=by rfl)(u:Loc X.env.scope x:=by first|exact Or.inl rfl|exact Or.inr rfl)(w:swapsWith e (some (.Name x t)) N.line X.env=pure false:=by rfl)
  (b:X.fn x=true\/X.env.scope.names.lookup x=some .local:=by first|exact .inl rfl|exact .inr rfl|assumption):PS X (.Assign [.Name x t] e N) (jn X.K (am i l)):=
 (zf f c u h w b).imp' λD M H z=>by obtain⟨F,m,L,S,o,j,O,r,a,q,k⟩:=z;obtain⟨d,y,n,q⟩:=ai q;cases q;exact⟨F,m,L,S,d,O,r,a,n,λv F' m' H' s g p=>k (M.set i (some v)) F' m' H' s g ((a.mono s).set p i)⟩
theorem L_(i:PT X c (tQ X.K y))(w:jW X bs (jn X.K f))(u:jW X cs (jn X.K g)):PS X (.If c bs cs N) (jn X.K (dW y f g)):=(Hc i w u).imp' λD M H z=>by
 obtain⟨F,m,L,S,p,t,O,r,l,q,k⟩:=z;obtain⟨c,x,d,q⟩:=ai q;refine⟨F,m,L,S,c,x,r,l,d,λF' m' H' s v=>?_⟩;cases c with
 |true=>rw[if_pos rfl]at q ⊢;exact⟨F',m',L,x,p,t,O,v,l.mono s,q,λh B e U b n a=>k h B e U (s.trans b) n a⟩
 |false=>rw[if_neg b9]at q ⊢;exact⟨F',m',L,x,p,t,O,v,l.mono s,q,λh B e U b n a=>k h B e U (s.trans b) n a⟩
theorem Dh:PS X Q (jn X.K rj):=zh.imp' λD M H h=>by obtain⟨F,m,L,S,f,x,O,r,l,q,k⟩:=h;cases q
inductive gTI(K:FG)(g:jf)(x:V)(σ:L2.St)(H:Hp)(Q:L2.St->Hp->Prop):Prop
 |mk (F:Aa) (m:List Addr) (L:Lc) (v:P) (L':Lc) (h0_:RL K F H m σ L) (h1_:RP K F H v x) (h2_:g v L=some L') (h3_:∀σ',RL K F H m σ' L'->Q σ' H):gTI K g x σ H Q
noncomputable def gT(K:FG)(g:jf):TG:=λx M H Q=>gTI K g x M H Q
theorem _root_.L2.PG.imp'(h:PG X J t)(i:∀v M H Q,k v M H Q->t v M H Q):PG X J k:=λp s M H v u Q I r q=>h p s M H v u Q I r (i v M H Q q)
theorem E2(i:Nat)(h:X.N.Nodup)(a:X.N[i]? = some x:=by rfl)(e:Loc X.env.scope x:=by first|exact Or.inl rfl|exact Or.inr rfl)(f:X.fn x=true\/X.env.scope.names.lookup x=some .local:=by first|exact .inl rfl|exact .inr rfl|assumption) :
  PG X (.Name x N) (gT X.K (ak i)):=(BH h a e f).imp' λv M H Q z=>by
 obtain⟨F,m,L,d,s,l,p,q,k⟩:=z;cases q;exact k _ (l.set (d:=.p d) p i)
def FW(K:FG)(J:It)(s:List P)(F:Aa)(m:List Addr)(H:Hp):Prop:=∀B e U,Stp F m H B e U ->
 (∀(i:Nat) v,s[i]? = some v->J.go i U/\∀x h,J.yld i U x h->∃a,Grow B U a h/\RP K a h v x)/\J.stop s.length U
inductive tII(K:FG)(f:gC)(σ:L2.St)(H:Hp)(R:It->Hp->Prop):Prop
 |mk (F:Aa) (m:List Addr) (L:Lc) (S:aD) (vs:List P) (S':aD) (h0_:Rel K F H m S) (h1_:RL K F H m σ L) (h2_:f L S=some (vs,S')) (h3_:∀J F' m' H',Stp F m H F' m' H'->Rel K F' H' m' S'->FW K J vs F' m' H'->R J H'):tII K f σ H R
noncomputable def tI(K:FG)(f:gC):TI:=λM H R=>tII K f M H R
theorem JT{tg iter:Expr}{fi:gC}{g:jf}{b:List Stmt}{z:ES}(hp:PassesOwn (model X.prog X.w) X.A X.env X.xe)(hc:X.calm=true)(hi:PI X tg iter (tI X.K fi))(hg:PG X tg (gT X.K g))(hb:jW X b (jn X.K z))
  (hs:∀x,foldedSetIterable iter X.env x=pure x:=by intro _;rfl):PS X (.For tg iter b [] N) (jn X.K (cb fi g z)):=
 (DX hp hc hi hg hb hs).imp' λD M H hz=>by
  obtain⟨F,m,L,S,fl,L',O,r,l,q,k⟩:=hz;obtain⟨v,S1,e1,q⟩:=ai q;refine⟨F,m,L,S,v,S1,r,l,e1,fun J Y A I G r1 it=>?_⟩;refine⟨fun i n c U=>n=v.length-i/\i≤v.length/\∃B s L2 f,Stp Y A I B s U/\Rel X.K B U s f/\RL X.K B U s c L2/\aR g z (v.drop i) L2 f=some (fl,L',O),
   ⟨v.length,rfl,Nat.zero_le _,Y,A,L,S1,.refl,r1,l.mono G,by rw[mX];exact q⟩,?_⟩
  rintro i n c U ⟨rfl,hi,B,s,L2,f,s2,r2,l2,a⟩;obtain⟨go,o⟩:=it B s U s2;by_cases t:i < v.length
  .right;have hv:v[i]? = some v[i]:=by simp[t]
   rw[List.drop_eq_getElem_cons t]at a;obtain⟨hgo,hy⟩:=go i _ hv;refine⟨hgo,λu p=>∃n',n' < v.length-i/\(n'=v.length-(i+1)/\i+1≤v.length/\∃B s L2 f,Stp Y A I B s p/\Rel X.K B p s f/\RL X.K B p s u L2/\aR g z (v.drop (i+1)) L2 f=some (fl,L',O)),λ_ _ h=>h,λx p y=>?_⟩;obtain⟨T,gr,p3⟩:=hy x p y;unfold aR at a;cases eg:g v[i] L2 with
   |none=>rw[eg]at a;cases a
   |some V=>
    rw[eg]at a;dsimp only at a;refine⟨T,s,L2,v[i],V,l2.mono gr.stp,p3,eg,λu l3=>?_⟩;have Q:Stp Y A I T s p:=s2.trans gr.stp;have r3:=r2.grow gr;cases eb:z V f with
    |none=>rw[eb]at a;cases a
    |some h=>
     obtain⟨w,W,Z⟩:=h;rw[eb]at a;refine⟨T,s,V,f,w,W,Z,r3,l3,eb,λj K C H4 R E P=>?_⟩;cases w with
     |nx=>exact⟨v.length-(i+1),by lia,rfl,t,K,C,W,Z,Q.trans R,E,P,a⟩
     |ct=>exact⟨v.length-(i+1),by lia,rfl,t,K,C,W,Z,Q.trans R,E,P,a⟩
     |bk=>cases a;exact k j K C H4 (G.trans (Q.trans R)) E P
     |rt d=>cases a;exact k j K C H4 (G.trans (Q.trans R)) E P
  .left;have e:i=v.length:=by lia
   subst e;rw[qN]at a;cases a;exact⟨o,k c B s U (G.trans s2) r2 l2⟩
end
theorem Stp.toGrow(s:Stp F [] H F' m' H')(f:∀a,F' a->H' a≠none):Grow F H F' H':=
 ⟨fun b o h=>s.oth b o h (by simp),s.frz,fun b h=>by
  rcases s.nf b h with q|q|q
  .exact .inl q
  .exact .inr ⟨q,f b h⟩
  .simp at q⟩
theorem kc{q:Prop}{β:Type}{d:β}(h:(none:Option β)=some d):q:=nomatch h
noncomputable def iC(n:Nat):Bool:=decide (n≤1000000)
theorem hZ(h:iC n=true):n≤sizeLine:=aU (aS h) (by decide)
section
variable{X:Cx}
def sK:P->P->Option P
 | .int i,.int j=>some (.int (i+j))
 | .str x,.str y=>if iC (x.length+y.length)=true then some (.str (x++y)) else none
 | .tup xs,.tup s=>if (!xs.isEmpty && iC (xs.length+s.length))=true then some (.tup (xs++s)) else none
 | .lst xs,.lst s=>if iC (xs.length+s.length)=true then some (.lst (xs++s)) else none
 |_,_=>none
theorem Hx:mV X (binaryOp .Add) sK:=by
 intro n s M H x y v u Q I l o h;obtain⟨F,E,t,d,J,w,g,q,k⟩:=h;cases E with
 |int i=>
  cases t with
  |int j=>cases q;cases (show x=.int i from w);cases (show y=.int j from g);exact Ef n s M H _ _ v u Q I l o ⟨i,j,rfl,rfl,k _ F H .refl rfl⟩
  |_=>exact kc q
 |str i=>
  cases t with
  |str j=>
   simp only[sK]at q;split at q
   .rename_i c;cases q;cases (show x=.str i from w);cases (show y=.str j from g);exact vm n s M H _ _ v u Q I l o ⟨i,j,rfl,rfl,hZ c,k _ F H .refl rfl⟩
   .cases q
  |_=>exact kc q
 |tup A=>
  cases t with
  |tup C=>
   simp only[sK]at q;split at q
   .rename_i c;rw[Bool.and_eq_true]at c;cases q;obtain⟨a,xs,rfl,S,r⟩:=w;obtain⟨b,P,rfl,K,m⟩:=g;have B:=r.length;have D:=m.length;have G:xs≠[]:=λz=>by
     subst z;have:A=[]:=lB B;subst this;simp at c
    refine BM n s M H _ _ v u Q I l o ⟨a,b,xs,P,rfl,rfl,S.sq,K.sq,G,by rw[<- B,<- D];exact hZ c.2,λz=>?_,λ_ p f=>?_⟩
    .subst z;have e:C=[]:=lB D;subst e;refine k _ F H .refl ?_;rw[List.append_nil];exact⟨a,xs,rfl,S,r⟩
    .exact k _ F _ (cx f) (.newTup f (r.append m))
   .cases q
  |_=>exact kc q
 |lst A=>
  cases t with
  |lst C=>
   simp only[sK]at q;split at q
   .rename_i c;cases q;obtain⟨a,xs,rfl,S,r⟩:=w;obtain⟨b,P,rfl,K,m⟩:=g;exact Ee n s M H _ _ v u Q I l o ⟨a,b,xs,P,rfl,rfl,S.2,K.2,by rw[<- r.length,<- m.length];exact hZ c,λp f=>k _ _ _ (cy f) (.newLst f (r.append m))⟩
   .cases q
  |_=>exact kc q
 |_=>exact kc q
noncomputable def AX(c:Int->Int->Bool)(g:Int->Int->P):P->P->Option P
 | .int i,.int j=>if c i j=true then some (g i j) else none
 |_,_=>none
@[simp] theorem Cg(c:Int->Int->Bool)(g:Int->Int->P)(i j:Int):AX c g (.int i) (.int j)=if c i j=true then some (g i j) else none:=rfl
theorem tG{f:Value->Value->Sem Value}{C:Int->Int->Prop}{a:Int->Int->V}{c:Int->Int->Bool}{g:Int->Int->P}(o:iI X f (rI C a))(b:∀i j,c i j=true->C i j)(m:∀K F H i j,RP K F H (g i j) (a i j)):mV X f (AX c g):=by
 intro p s M H x y v u Q I l z h;obtain⟨F,e,n,d,S,t,w,q,k⟩:=h;cases e with
 |int i=>
  cases n with
  |int j=>
   rw[Cg]at q;split at q
   .rename_i r;cases q;cases (show x=.int i from t);cases (show y=.int j from w);exact o p s M H _ _ v u Q I l z ⟨i,j,rfl,rfl,b i j r,k _ F H .refl (m _ _ _ _ _)⟩
   .cases q
  |_=>exact kc q
 |_=>exact kc q
theorem nQ(h:iI X f (Bu k)):iI X f (rI (λ_ _=>True) k):=λp s M H x y v u Q I r n ⟨i,j,e,a,_,q⟩=>h p s M H x y v u Q I r n ⟨i,j,e,a,q⟩
noncomputable abbrev yC:Int->Int->Bool:=λ_ _=>true
abbrev sJ:=AX yC λi j=>.int (i-j)
theorem Hm:mV X (binaryOp .Sub) sJ:=tG (nQ D') (λ_ _ _=>trivial) λ_ _ _ _ _=>rfl
noncomputable abbrev D0:Int->Int->Bool:=λ_ j=>decide (0 < j) && decide (j < 1152921504606846976)
theorem zD:iI X (binaryOp .FloorDiv) (rI (λ_ j=>0 < j/\j < 1152921504606846976) λi j=>.int (i / j)):=Jj λi j _ _ _ _ _ h q=>by have a:(0:Int) < j:=h.1;have e:j < 1152921504606846976:=h.2;have x:j.natAbs.log2 < 9000:=cg ((Nat.log2_lt (by lia)).mpr (show j.natAbs < 2 ^ 60 by lia)) (by decide);exact floordiv_int (by lia) (by rw[Int.fdiv_eq_ediv_of_nonneg i (by lia)];exact q) (.inl (PyProof.noPylong_of_log2 x))
abbrev aB:=AX D0 λi j=>.int (i / j)
theorem BN:mV X (binaryOp .FloorDiv) aB:=tG zD (λi j h=>by rw[Bool.and_eq_true]at h;exact⟨aS h.1,aS h.2⟩) λ_ _ _ _ _=>rfl
abbrev aO:=AX (λ_ j=>decide (0 < j)) λi j=>.int (i % j)
theorem Hr:mV X (binaryOp .Mod) aO:=tG Ec (λi j h=>aS h) λ_ _ _ _ _=>rfl
abbrev ye:=AX (λi j=>decide (0≤j) && decide (j≤1000000) && decide (i.natAbs < 2 ^ 64)) λi j=>.int (i ^ j.toNat)
theorem Hn:mV X (binaryOp .Pow) ye:=tG Eb (λi j h=>by simp only[Bool.and_eq_true]at h;exact⟨aS h.1.1,aS h.1.2,aS h.2⟩) λ_ _ _ _ _=>rfl
abbrev AW:=AX yC λi j=>.bl (decide (i < j))
theorem KO:mV X (compareOp .Lt) AW:=tG (nQ Hi) (λ_ _ _=>trivial) λ_ _ _ _ _=>rfl
abbrev IC:=AX yC λi j=>.bl (decide (i≤j))
theorem KP:mV X (compareOp .LtE) IC:=tG (nQ Hj) (λ_ _ _=>trivial) λ_ _ _ _ _=>rfl
abbrev FO:=AX yC λi j=>.bl (decide (j < i))
theorem KQ:mV X (compareOp .Gt) FO:=tG (nQ Hk) (λ_ _ _=>trivial) λ_ _ _ _ _=>rfl
abbrev ID:=AX yC λi j=>.bl (decide (j≤i))
theorem KR:mV X (compareOp .GtE) ID:=tG (nQ Hl) (λ_ _ _=>trivial) λ_ _ _ _ _=>rfl
noncomputable def fJ(i j:Int):Bool:=decide (i.natAbs.log2+j.natAbs.log2 < 100000000)
theorem zI{i j:Int}(h:fJ i j=true):IntMulOk i j:=by
 have a:i.natAbs.log2+j.natAbs.log2 < 100000000:=aS h;have b:∀x:Int,Builtin.Int.intBits x≤x.natAbs.log2+1:=λx=>by
  unfold Builtin.Int.intBits;split
  .exact Nat.zero_le _
  .exact Nat.le_refl _
 exact IntMulOk.of_le (b i) (b j) (by lia)
theorem BL:iI X (binaryOp .Mult) (rI (λi j=>IntMulOk i j) λi j=>.int (i * j)):=Jj λ_ _ _ _ _ _ _ h q=>mul_int q h
noncomputable def dC(x:Str)(n:Nat):Str:=⟨(List.replicate n x.cps).foldl (·++·) #[]⟩
theorem ve(x:Str):dC x 1=x:=by unfold dC;cases x;simp
theorem x5(n:Nat):(List.replicate n (#[]:Array Nat)).foldl (·++·) #[]=#[]:=by
 induction n with
 |zero=>rfl
 |succ n i=>rw[gh,iM];simpa using i
theorem re(x:Str)(n:Nat)(h:x.length=0):dC x n=x:=by have e:x.cps=#[]:=Array.eq_empty_of_size_eq_zero (by simpa[Str.length] using h);unfold dC;cases x;simp only at e;subst e;rw[x5]
theorem vI(a:Array Nat)(n:Nat):∀b:Array Nat,((List.replicate n a).foldl (·++·) b).size=b.size+n * a.size:=by
 induction n with
 |zero=>intro b;simp
 |succ n i=>intro b;rw[gh,iM,i,Array.size_append,Nat.succ_mul];lia
theorem ik(x:Str)(n:Nat):(dC x n).length=n * x.length:=by unfold dC Str.length;simp only;rw[vI];simp
def vR:P->P->Option P
 | .int i,.int j=>if fJ i j=true then some (.int (i * j)) else none
 | .str x,.int n=>if (iC (n.toNat * x.length) && decide (n.natAbs < 1000000))=true then some (.str (dC x n.toNat)) else none
 | .lst xs,.int n=>if (iC (xs.length * n.toNat) && decide (n.natAbs < 1000000))=true then some (.lst (List.replicate n.toNat xs).flatten) else none
 |_,_=>none
theorem cC.rep(h:cC K F H r xs):∀k:Nat,cC K F H (List.replicate k r).flatten (List.replicate k xs).flatten
 |0=>rfl
 |k+1=>by rw[gh,gh,lw,lw];exact h.append (cC.rep h k)
theorem Hq:mV X (binaryOp .Mult) vR:=by
 intro r s M H x y v u Q I o S h;obtain⟨F,B,w,d,L,g,l,q,k⟩:=h;cases B with
 |int i=>
  cases w with
  |int j=>
   simp only[vR]at q;split at q
   .rename_i c;cases q;cases (show x=.int i from g);cases (show y=.int j from l);exact BL r s M H _ _ v u Q I o S ⟨i,j,rfl,rfl,zI c,k _ F H .refl rfl⟩
   .cases q
  |_=>exact kc q
 |str i=>
  cases w with
  |int n=>
   simp only[vR]at q;split at q
   .rename_i c;rw[Bool.and_eq_true]at c;have E:=aS c.2;have N:n.toNat * i.length≤1000000:=aS c.1;have R:=jH;have T:(1000000:Nat)≤sizeLine:=by decide
    cases q;cases (show x=.str i from g);cases (show y=.int n from l);obtain⟨t,rfl⟩:=o;obtain⟨U,rfl⟩:=S;refine PySem.P.mul_str (by have C:decide (n < -(2 ^ 63:Int))=false:=cn (by lia);have D:decide (n ≥ 2 ^ 63)=false:=cn (by lia);rw[C,D];rfl) (λa b=>?_) (λa b=>?_) ?_
    .intro z;have O:((i.length:Nat):Int)≤(2 ^ 63-1) / n:=by
      refine(Int.le_ediv_iff_mul_le (by lia)).mpr ?_;have e:((i.length:Nat):Int) * n=((n.toNat * i.length:Nat):Int):=by rw[Int.natCast_mul,Int.toNat_of_nonneg (by lia),Int.mul_comm]
      rw[e];lia
     lia
    .unfold Builtin.Str.tooLong;first
      |exact cn (by rw[Nat.mul_comm];lia)
      |(rw[Nat.mul_comm];exact cn (by lia))
    .have f:Q (.str (dC i n.toNat)) H:=k _ F H .refl rfl;by_cases K:n < 1
     .rw [if_pos K];have e:n.toNat=0:=by lia
      rw[e]at f;exact⟨by decide,⟨.str Str.empty,H,I.tok _,⟨_,rfl⟩,f⟩⟩
     .rw [if_neg K];by_cases m:(n == 1 ||i.length == 0)=true
      .rw [if_pos m];rw[jv]at m;have e:dC i n.toNat=i:=by
        rcases m with m|m
        .have:n=1:=by simpa using m
         subst this;exact ve i
        .exact re i _ (by simpa using m)
       rw[e]at f;exact⟨.str i,H,I,⟨_,rfl⟩,f⟩
      .rw [if_neg m];refine⟨?_,⟨.str (dC i n.toNat),H,I.tok _,⟨_,rfl⟩,f⟩⟩;have:=ik i n.toNat
       unfold dC at this;rw[this];lia
   .cases q
  |_=>exact kc q
 |lst J=>
  cases w with
  |int n=>
   simp only[vR]at q;split at q
   .rename_i c;rw[Bool.and_eq_true]at c;have E:=aS c.2;cases q;obtain⟨a,xs,rfl,G,A⟩:=g;cases (show y=.int n from l);exact Ea r s M H _ _ v u Q I o S ⟨a,n,xs,rfl,rfl,G.2,by lia,by lia,by rw[<- A.length];exact hZ c.1,λp P=>k _ _ _ (cy P) (.newLst P (A.rep _))⟩
   .cases q
  |_=>exact kc q
 |_=>exact kc q
noncomputable def Lh:P->P->Option P
 | .int i,.int j=>some (.bl (decide (i=j)))
 | .str x,.str y=>some (.bl (decide (x=y)))
 | .bl a,.bl b=>some (.bl (decide (a=b)))
 |_,_=>none
noncomputable def Fc:P->P->Option P
 | .int i,.int j=>some (.bl (!decide (i=j)))
 | .str x,.str y=>some (.bl (!decide (x=y)))
 | .bl a,.bl b=>some (.bl (!decide (a=b)))
 |_,_=>none
theorem mx{i j:Int}:decide (V.int i=V.int j)=decide (i=j):=by
 by_cases h:i=j
 .subst h;simp
 .rw [cn h,cn λz=>h (V.int.inj z)]
theorem mw:decide (V.str i=V.str k)=decide (i=k):=by
 by_cases h:i=k
 .subst h;simp
 .rw [cn h,cn λz=>h (V.str.inj z)]
theorem oI:decide (V.bl i=V.bl k)=decide (i=k):=by
 by_cases h:i=k
 .subst h;simp
 .rw [cn h,cn λz=>h (V.bl.inj z)]
theorem KS:mV X (compareOp .Eq) Lh:=by
 intro p s M H x y v u Q I r f h;obtain⟨F,b,a,d,t,e,n,q,k⟩:=h;cases b with
 |int i=>
  cases a with
  |int j=>cases q;cases (show x=.int i from e);cases (show y=.int j from n);exact zE p s M H _ _ v u Q I r f ⟨rfl,by rw[mx];exact k _ F H .refl rfl⟩
  |_=>exact kc q
 |str i=>
  cases a with
  |str j=>cases q;cases (show x=.str i from e);cases (show y=.str j from n);exact zE p s M H _ _ v u Q I r f ⟨rfl,by rw[mw];exact k _ F H .refl rfl⟩
  |_=>exact kc q
 |bl i=>
  cases a with
  |bl j=>cases q;cases (show x=.bl i from e);cases (show y=.bl j from n);exact zE p s M H _ _ v u Q I r f ⟨rfl,by rw[oI];exact k _ F H .refl rfl⟩
  |_=>exact kc q
 |_=>exact kc q
theorem KN:mV X (compareOp .NotEq) Fc:=by
 intro p s M H x y v u Q I r f h;obtain⟨F,b,a,d,t,e,n,q,k⟩:=h;cases b with
 |int i=>
  cases a with
  |int j=>cases q;cases (show x=.int i from e);cases (show y=.int j from n);exact zC p s M H _ _ v u Q I r f ⟨rfl,by rw[mx];exact k _ F H .refl rfl⟩
  |_=>exact kc q
 |str i=>
  cases a with
  |str j=>cases q;cases (show x=.str i from e);cases (show y=.str j from n);exact zC p s M H _ _ v u Q I r f ⟨rfl,by rw[mw];exact k _ F H .refl rfl⟩
  |_=>exact kc q
 |bl i=>
  cases a with
  |bl j=>cases q;cases (show x=.bl i from e);cases (show y=.bl j from n);exact zC p s M H _ _ v u Q I r f ⟨rfl,by rw[oI];exact k _ F H .refl rfl⟩
  |_=>exact kc q
 |_=>exact kc q
theorem xg{q β:Type}{xs:List q}{s:List β}{i:Int}{d:q}(l:xs.length=s.length)(h:L2.atI xs i=some d):∃j:Nat,xs[j]? = some d/\∀y,s[j]? = some y->L2.atI s i=some y:=by
 unfold L2.atI at h ⊢;rw[l]at h;cases e:vw s.length i with
 |none=>rw[e]at h;cases h
 |some j=>rw[e]at h;exact⟨j,h,λy x=>x⟩
theorem cC.atI{K:FG}{F:Aa}{H:Hp}{s:List P}{xs:List V}{i:Int}{d:P}(r:cC K F H s xs)(h:L2.atI s i=some d):∃x,L2.atI xs i=some x/\RP K F H d x:=by obtain⟨j,a,n⟩:=xg r.length h;obtain⟨x,e,p⟩:=r.get a;exact⟨x,n x e,p⟩
theorem dt.atI{K:FG}{F:Aa}{H:Hp}{m:List Addr}{s:List D}{xs:List V}{i:Int}{d:D}(r:dt K F H m s xs)(h:L2.atI s i=some d):∃x,L2.atI xs i=some x/\RD K F H m d x:=by obtain⟨j,a,n⟩:=xg r.length h;obtain⟨x,e,p⟩:=r.get a;exact⟨x,n x e,p⟩
noncomputable def bG(k:bz):List bz->List q->Option q
 |h::s,v::x=>if h=k then some v else bG k s x
 |_,_=>none
noncomputable def cj:P->Option bz
 | .int i=>some (.inl i)
 | .str x=>some (.inr x)
 |_=>none
def ar:P->P->Option P
 | .tup xs,.int i=>L2.atI xs i
 | .lst xs,.int i=>L2.atI xs i
 | .ro xs,.int i=>L2.atI xs i
 | .str x,.int i=>if iC x.length=true then (L2.atI x.cps.toList i).map λc=>.str ⟨#[c]⟩ else none
 | .dct s v,y=>match cj y with
  |some k=>bG k s v
  |none=>none
 |_,_=>none
theorem lE:∀{s:List (bz×V)}{a:List P}{d:P},cC K F H a (s.map (·.2))->bG k (s.map (·.1)) a=some d->∃v,fY s k=some v/\RP K F H d v
 | [],a,d,r,h=>by cases a<;>exact kc h
 |(f,v)::s,[],d,r,h=>kc h
 |(f,v)::s,u::a,d,r,h=>by
  obtain⟨x,g,e,p,b⟩:=r;rw[List.map_cons]at e;injection e with c m;simp only[List.map_cons,bG]at h;by_cases n:f=k
  .rw [if_pos n]at h;cases h;exact⟨v,gO (p:=(f,v)) n,by rw[show v=x from c];exact p⟩
  .rw [if_neg n]at h;rw[<- m]at b;obtain⟨w,t,q⟩:=lE b h;exact⟨w,by rw[fX (p:=(f,v)) n];exact t,q⟩
theorem gS(h:cj t=some k)(r:RP K F H t v):v=kV k:=by
 cases t with
 |int i=>cases h;exact r
 |str x=>cases h;exact r
 |_=>exact kc h
theorem zW(r:X.A.units+1 < cLine):AU X (λx y H Q=>∃a v,x=.ref a/\ja H a y (some v)/\(∃k,H a=some (.dK k))/\Q v H):=by
 intro f l p s M H x y v u Q I d i h m;obtain⟨a,w,rfl,g,⟨k,c⟩,q⟩:=h;cases d;have n:∃o,s.heap.get? a=some o/\o.ExactDict:=by obtain⟨_,_,_,_,o,_,_,e,n,_⟩:=I.hok a _ c;exact⟨o,e,n⟩
 obtain⟨o,e,n⟩:=n;exact tail_any ⟨o,e,n.1⟩ slot_dict_getitem.lookup (qf r I g i λz j b t=>⟨w,H,b,t,q⟩) m
theorem LM(N:X.A.units+1 < cLine):AU X (rP X.K ar):=by
 intro f l b s M H x y v n Q I S K h g;obtain⟨F,E,t,d,R,j,o,q,k⟩:=h;cases E with
 |tup m=>
  cases t with
  |int i=>obtain⟨a,xs,rfl,P,r⟩:=j;cases (show y=.int i from o);obtain⟨z,e,p⟩:=r.atI (show L2.atI m i=some d from q);exact EQ f l b s M H _ _ v n Q I S K ⟨a,xs,i,z,rfl,rfl,P.sq,e,k z F H .refl p⟩ g
  |_=>exact kc q
 |lst m=>
  cases t with
  |int i=>obtain⟨a,xs,rfl,P,r⟩:=j;cases (show y=.int i from o);obtain⟨z,e,p⟩:=r.atI (show L2.atI m i=some d from q);exact rT f l b s M H _ _ v n Q I S K ⟨a,xs,i,z,rfl,rfl,P.sq,e,k z F H .refl p⟩ g
  |_=>exact kc q
 |ro m=>
  cases t with
  |int i=>obtain⟨a,xs,rfl,P,r⟩:=j;cases (show y=.int i from o);obtain⟨z,e,p⟩:=r.atI (show L2.atI m i=some d from q);exact rT f l b s M H _ _ v n Q I S K ⟨a,xs,i,z,rfl,rfl,P.sq,e,k z F H .refl p⟩ g
  |_=>exact kc q
 |str z=>
  cases t with
  |int i=>
   cases (show x=.str z from j);cases (show y=.int i from o);simp only[ar]at q;split at q
   .rename_i L;cases e:L2.atI z.cps.toList i with
    |none=>rw[e]at q;exact kc q
    |some c=>rw[e]at q;cases q;exact ER f l b s M H _ _ v n Q I S K ⟨z,i,c,rfl,rfl,hZ L,e,k _ F H .refl rfl⟩ g
   .cases q
  |_=>exact kc q
 |dct T m=>
  obtain⟨a,C,rfl,u,D,J,r⟩:=j;simp only[ar]at q;cases A:cj t with
  |none=>rw[A]at q;exact kc q
  |some O=>rw[A]at q;dsimp only at q;subst J;obtain⟨w,G,p⟩:=lE r q;have B:=gS A o;subst B;exact zW N f l b s M H _ _ v n Q I S K ⟨a,w,rfl,by rw[<- G];exact ja.k D,⟨C,D⟩,k w F H .refl p⟩ g
 |_=>exact kc q
theorem Md{a b:Expr}{u z:EV}{N:Pos}(n:X.A.units+1 < cLine)(x:PE X a (tV X.K u))(e:PE X b (tV X.K z))(s:li b):PE X (.Subscript a b N) (tV X.K (ac ar u z)):=
 (zu (LM n) x e s).imp' λ_ _ _ h=>q_ h
end
section
variable{X:Cx}
theorem nG:∀{s:List (bz×V)}{a:List D}{d:D},dt K F H m a (s.map (·.2))->bG k (s.map (·.1)) a=some d->∃v,fY s k=some v/\RD K F H m d v
 | [],a,d,r,h=>by cases a<;>exact kc h
 |(f,v)::s,[],d,r,h=>kc h
 |(f,v)::s,g::a,d,r,h=>by
  obtain⟨x,i,e,p,b⟩:=r;rw[List.map_cons]at e;injection e with c t;simp only[List.map_cons,bG]at h;by_cases n:f=k
  .rw [if_pos n]at h;cases h;exact⟨v,gO (p:=(f,v)) n,by rw[show v=x from c];exact p⟩
  .rw [if_neg n]at h;rw[<- t]at b;obtain⟨w,q,u⟩:=nG b h;exact⟨w,by rw[fX (p:=(f,v)) n];exact q,u⟩
def mK(r:EE)(k:EV):EE:=λL S=>aG (r L S) λd x=>aG (k L x) λy h=>match d with
 | .p v=>(ar v y).map λz=>(.p z,h)
 | .ref i=>match h[i]? with
  | some (.lst s)=>(match y with
   | .int j=>(L2.atI s j).map λz=>(z,h)
   |_=>none)
  |some (.fz v)=>(ar v y).map λz=>(.p z,h)
  | some (.dct a e)=>(match cj y with
   |some k=>(bG k a e).map λz=>(z,h)
   |none=>none)
  |_=>none
theorem J'{a b:Expr}{u:EE}{z:EV}{N:Pos}(hu:X.A.units+1 < cLine)(ha:PE X a (tE X.K u))(hb:PE X b (tV X.K z))(hs:li b):PE X (.Subscript a b N) (tE X.K (mK u z)):=
 (zu (((LM hu).or rT).or (zW hu)) ha hb hs).imp' λM H Q hz=>by
  obtain⟨F,m,L,S,d,O,r,l,q,k⟩:=hz;obtain⟨x,Z,A,q⟩:=ai q;obtain⟨y,K,e2,q⟩:=ai q;refine⟨F,m,L,S,x,Z,r,l,A,λv Y m1 I c r1 p1=>?_⟩;refine⟨Y,m1,L,Z,y,K,r1,l.mono c,e2,λh B R U o f V=>?_⟩;have px:=RD.mono o p1;have s:∀w:P,RP X.K B U w v->(ar w y).map (λe=>(D.p e,K))=some (d,O)->rP X.K ar v h U Q:=λw pw q=>by
   cases g:ar w y with
   |none=>rw[g]at q;cases q
   |some e=>rw[g]at q;cases q;exact⟨B,w,y,e,f.ft,pw,V,g,λt F3 H3 gr W=>k t F3 R H3 (c.trans (o.trans gr.stp)) (f.grow gr) W⟩
  cases x with
  |p w=>exact .inl (.inl (s w px q))
  |ref i=>
   obtain⟨a,rfl,hm⟩:=px;dsimp only at q;cases C:K[i]? with
   |none=>rw[C]at q;cases q
   |some so=>
    rw[C]at q;have T:=f.obj i a so hm C;cases so with
    |fz w=>exact .inl (.inl (s w T q))
    |dct ks vs=>
     dsimp only at q;obtain⟨n,hk,ek,ra⟩:=T;cases E:cj y with
     |none=>rw[E]at q;cases q
     |some J=>
      rw[E]at q;dsimp only at q;subst ek;cases g:bG J (n.map (·.1)) vs with
      |none=>rw[g]at q;cases q
      |some e=>rw[g]at q;cases q;obtain⟨w,A,p⟩:=nG ra g;have G:=gS E V;subst G;exact .inr ⟨a,w,rfl,by rw[<- A];exact ja.k hk,⟨n,hk⟩,k w B R U (c.trans o) f p⟩
    |ins _ _ _=>cases q
    |exc _=>cases q
    |dtt _ _=>cases q
    |lst ds=>
     dsimp only at q;cases y with
     |int j=>
      dsimp only at q;obtain⟨xs,hH,rs⟩:=T;cases g:L2.atI ds j with
      |none=>rw[g]at q;cases q
      |some e=>rw[g]at q;cases q;obtain⟨t,e3,W⟩:=rs.atI g;cases (show h=.int j from V);exact .inl (.inr ⟨a,xs,j,t,rfl,rfl,ie.of hH,e3,k t B R U (c.trans o) f W⟩)
     |_=>cases q
def dq:P->Option Nat
 | .tup xs=>some xs.length
 | .lst xs=>some xs.length
 | .ro xs=>some xs.length
 | .str x=>if iC x.length=true then some x.length else none
 |_=>none
def cB:D->aD->Option Nat
 | .p v,_=>dq v
 | .ref i,S=>match S[i]? with
  |some (.lst d)=>some d.length
  |some (.fz v)=>dq v
  |_=>none
def eH(r:EE):EV:=λL S=>aG (r L S) λd h=>(cB d h).map λn=>(.int n,h)
theorem wO{F:Aa}{H:Hp}{w:P}{v:V}{n:Nat}{Q:VK}(p:RP X.K F H w v)(h:dq w=some n)(q:Q (.int n) H) :
  (∃p y,[v]=[V.ref p]/\(ie X.K H p y\/sS X.K H p y)/\Q (.int y.length) H)\/(∃z,[v]=[V.str z]/\z.length≤sizeLine/\Q (.int z.length) H):=by
 cases w with
 |tup d=>obtain⟨a,xs,rfl,t,r⟩:=p;cases h;exact .inl ⟨a,xs,rfl,.inr t.sq,by rw[<- r.length];exact q⟩
 |lst d=>obtain⟨a,xs,rfl,t,r⟩:=p;cases h;exact .inl ⟨a,xs,rfl,.inl t.sq,by rw[<- r.length];exact q⟩
 |ro d=>obtain⟨a,xs,rfl,t,r⟩:=p;cases h;exact .inl ⟨a,xs,rfl,.inl t.sq,by rw[<- r.length];exact q⟩
 |str x=>
  cases (show v=.str x from p);simp only[dq]at h;split at h
  .rename_i c;cases h;exact .inr ⟨x,rfl,hZ c,q⟩
  .cases h
 |_=>exact kc h
theorem J9(P:Gl X "len")(f:X.mg "len"=none)(K:PE X e (tE X.K l))(c:starEach [e] X.env=[(false,eval e X.env)]:=by rfl):PE X (.Call (.Name "len" p) [e] [] N) (tV X.K (eH l)):=
 (jD (sO.or sN) P f PySem.boot_len (dR K gm (by rw[c];rfl)) (by decide) (by decide) (by rw[c];rfl) rfl).imp' λM H Q A=>by
  obtain⟨F,m,L,S,d,O,r,h,q,k⟩:=A;obtain⟨x,b,j,q⟩:=ai q;refine⟨F,m,L,S,x,b,r,h,j,λv Y B I E u t=>?_⟩;cases s:cB x b with
  |none=>rw[s]at q;cases q
  |some n=>
   rw[s]at q;cases q;have y:Q (.int n) I:=k _ Y B I E u rfl;cases x with
   |p w=>exact wO t s y
   |ref i=>
    obtain⟨a,rfl,f⟩:=t;simp only[cB]at s;cases C:O[i]? with
    |none=>rw[C]at s;cases s
    |some g=>
     rw[C]at s;have o:=u.obj i a g f C;cases g with
     |fz w=>exact wO o s y
     |dct J R=>cases s
     |ins _ _ _=>cases s
     |exc _=>cases s
     |dtt _ _=>cases s
     |lst G=>cases s;obtain⟨xs,z,D⟩:=o;exact .inl ⟨a,xs,rfl,.inl (ie.of z),by rw[<- D.length];exact y⟩
noncomputable def dD(d:D)(S:aD):Option (Nat×List D):=match d with
 | .ref i=>match S[i]? with
  |some (.lst s)=>some (i,s)
  |_=>none
 |_=>none
theorem kW(h:dD d S=some (i,k)):d=.ref i/\S[i]? = some (.lst k):=by
 unfold dD at h;split at h
 .split at h
  .rename_i e;cases h;exact⟨rfl,e⟩
  .cases h
 .cases h
def bj(r:EE)(a:EE):EE:=λL S=>aG (r L S) λd h=>match dD d h with
 |none=>none
 |some _=>aG (a L h) λx e=>match dD d e with
  |some (i,s)=>if few s=true then some (.p .non,e.set i (.lst (s++[x]))) else none
  |none=>none
theorem A6{o e:Expr}{T l:EE}{p c:Pos}(ho:PE X o (tE X.K T))(he:PE X e (tE X.K l))(G:starEach [e] X.env=[(false,eval e X.env)]:=by rfl)
  (b:attributeBase o "append" X.env (eval o X.env)=eval o X.env:=by rfl) (t:(p.endLine == c.line)=true:=by rfl):PE X (.Call (.Attribute o "append" p) [e] [] c) (tE X.K (bj T l)):=
 (CM uW PySem.F.slot_list_append PySem.F.type_list_append pW ho (dR he gm (by rw[G];rfl)) b (by rw[G];rfl) t (by rw[G];rfl) rfl).imp' λM H h hz=>by
  obtain⟨F,m,L,S,d,O,r,s,q,k⟩:=hz;obtain⟨x,P,e1,q⟩:=ai q;refine⟨F,m,L,S,x,P,r,s,e1,λv Y m1 I s1 r1 Z=>?_⟩;cases D:dD x P with
  |none=>rw[D]at q;cases q
  |some z=>
   obtain⟨i,ds⟩:=z;rw[D]at q;dsimp only at q;obtain⟨rfl,C⟩:=kW D;obtain⟨a,rfl,hm⟩:=id Z;obtain⟨xs,hH,rs⟩:=r1.obj i a _ hm C;refine⟨.inl ⟨rfl,xs,ie.of hH⟩,?_⟩;obtain⟨y,R,e2,q⟩:=ai q;refine⟨Y,m1,L,P,y,R,r1,s.mono s1,e2,λu B J U s2 N p2=>?_⟩;cases n:dD (.ref i) R with
   |none=>rw[n]at q;cases q
   |some z=>
    obtain⟨i2,A⟩:=z;rw[n]at q;dsimp only at q;obtain⟨e3,f⟩:=kW n;cases e3;split at q
    .rename_i V;cases q;obtain⟨a2,e4,w⟩:=RD.mono s2 Z;cases e4;obtain⟨g,j,K⟩:=N.obj i a _ w f;have hl:=kG V;have E:g.length < sizeLine:=by
      have:A.length≤1000000:=aS V;rw[<- K.length];exact ly this (by decide)
     have W:∀zs,U a≠some (.tup zs):=λzs z=>by rw[j]at z;cases z
     have Q:Stp B J U B J (bW U a (.lst (g++[u]))):=fR N w f trivial W;refine⟨a,g,u,rfl,rfl,j,E,?_⟩;exact k .non B J _ (s1.trans (s2.trans Q)) (N.set w f trivial W ⟨_,aE,dt.mono Q (K.append ⟨u,[],rfl,p2,rfl⟩)⟩) rfl
    .cases q
noncomputable abbrev EO:=Lc->aD->Option (Option Int×aD)
noncomputable def fZ:EO:=λ_ S=>some (none,S)
def fI(a:EV):EO:=λL S=>aG (a L S) λv h=>match v with
 | .int i=>some (some i,h)
 |_=>none
inductive tOI(K:FG)(f:EO)(σ:L2.St)(H:Hp)(Q:Option Int->Hp->Prop):Prop
 |mk (F:Aa) (m:List Addr) (L:Lc) (S:aD) (b:Option Int) (S':aD) (h0_:Rel K F H m S) (h1_:RL K F H m σ L) (h2_:f L S=some (b,S')) (h3_:∀F' m' H',Stp F m H F' m' H'->Rel K F' H' m' S'->Q b H'):tOI K f σ H Q
noncomputable def tO(K:FG)(f:EO):TO:=λM H Q=>tOI K f M H Q
theorem _root_.L2.PO.imp'(h:PO X e t)(i:∀M H Q,k M H Q->t M H Q):PO X e k:=λp s M H Q I q=>h p s M H Q I (i M H Q q)
theorem El:PO X none (tO X.K fZ):=BE.imp' λM H Q h=>by obtain⟨F,m,L,S,d,O,r,l,q,k⟩:=h;cases q;exact k F m H .refl r
theorem Ek(h:PE X e (tV X.K u)):PO X (some e) (tO X.K (fI u)):=(BC h).imp' λM H Q z=>by
 obtain⟨F,m,L,S,d,O,r,l,q,k⟩:=z;obtain⟨x,b,a,q⟩:=ai q;cases x with
 |int i=>cases q;exact⟨F,m,L,S,_,_,r,l,a,λv Y s I f n p=>⟨i,p,k Y s I f n⟩⟩
 |_=>cases q
def cut(xs:List q)(lo h:Option Int):List q:=(xs.drop (HT.eM xs.length 0 lo)).take (HT.eM xs.length xs.length h-HT.eM xs.length 0 lo)
theorem cC.cut(r:cC K F H k xs)(lo h:Option Int):cC K F H (Ev.cut k lo h) (uu xs lo h):=by unfold Ev.cut uu;rw[r.length];exact(r.drop _).take _
def M0:P->Option Int->Option Int->Option P
 | .lst xs,lo,h=>some (.lst (cut xs lo h))
 | .ro xs,lo,h=>some (.lst (cut xs lo h))
 | .tup xs,lo,h=>if HT.eM xs.length 0 lo=0/\HT.eM xs.length xs.length h=xs.length then none else some (.tup (cut xs lo h))
 |_,_,_=>none
theorem _root_.L2.PI.imp'(h:PI X r iter t)(i:∀M H R,k M H R->t M H R):PI X r iter k:=λp s M H R I q=>h p s M H R I (i M H R q)
theorem zX(f:∀B h U,Stp F m H B h U->ie K U a xs)(r:cC K F H t xs):FW K (JN K a) t F m H:=by
 intro B h U s;have q:=f B h U s;have k:=cC.mono s r;refine⟨λi v e=>?_,⟨xs,q,by rw[k.length];exact Nat.le_refl _⟩⟩;obtain⟨x,n,p⟩:=k.get e;refine⟨⟨xs,x,q,n⟩,λy b z=>?_⟩;obtain⟨rfl,z⟩:=z;have:=z xs q
 rw[n]at this;cases this;exact⟨B,.refl,p⟩
noncomputable def intsFrom(lo:Int)(n:Nat):List P:=(List.range n).map λ(i:Nat)=>.int (lo+(i:Int))
def io(a:EV):gC:=λL S=>aG (a L S) λv h=>match v with
 | .int j=>if decide (j.natAbs < 1000000)=true then some (intsFrom 0 j.toNat,h) else none
 |_=>none
theorem ET{lo:Int}:FW K (JM lo n) (intsFrom lo n) F m H:=by
 intro B k U s;have l:(intsFrom lo n).length=n:=by unfold intsFrom;simp
 refine⟨λi v e=>?_,by show n≤(intsFrom lo n).length;rw[l];exact Nat.le_refl _⟩;have h:i < n:=by rw[<- l];exact(List.getElem?_eq_some_iff.mp e).1
 refine⟨h,λx a z=>?_⟩;obtain⟨rfl,rfl⟩:=z;refine⟨B,.refl,?_⟩;unfold intsFrom at e;simp[h]at e;subst e;exact rfl
theorem MA{w a:Expr}{u:EV}{p N:Pos}(g:Gl X "range")(n:X.mg "range"=none)(s:PE X a (tV X.K u))(h:starEach [a] X.env=[(false,eval a X.env)]:=by rfl):PI X w (.Call (.Name "range" p) [a] [] N) (tI X.K (io u)):=
 (xH g n (dR s gm (by rw[h];rfl)) h).imp' λM H R z=>by
  obtain⟨F,m,L,S,o,O,r,l,q,k⟩:=z;obtain⟨v,i,e,q⟩:=ai q;cases v with
  |int j=>
   dsimp only at q;split at q
   .rename_i c;have y:j.natAbs < 1000000:=aS c;cases q;refine⟨F,m,L,S,_,_,r,l,e,λx Y f I d t b=>?_⟩;cases (show x=.int j from b);exact⟨j,rfl,by lia,by lia,k _ Y f I d t ET⟩
   .cases q
  |_=>cases q
end
def bA(g:jf)(c:EB)(e:EV):List P->Lc->aD->Option (List P×aD)
 | [],_,S=>some ([],S)
 |v::r,L,S=>match g v L with
  |none=>none
  |some h=>aG (c h S) λk x=>if k=true then aG (e h x) λy a=>aG (bA g c e r h a) λn s=>some (y::n,s) else bA g c e r h x
noncomputable def lG(j:List Nat)(n:Nat)(L:List (Option q)):List (Option q):=(j.foldl (λL i=>L.set i none) L)++List.replicate n none
def bo(i:gC)(j:List Nat)(n:Nat)(g:jf)(c:EB)(e:EV):EV:=λL S=>aG (i L S) λxs h=>if few xs=true then aG (bA g c e xs (lG j n L) h) λy x=>some (.lst y,x) else none
noncomputable def ir:EB:=λ_ S=>some (true,S)
theorem fS(j:List Nat):∀L:List (Option q),(j.foldl (λL i=>L.set i none) L).length=L.length:=by
 induction j with
 |nil=>intro L;rfl
 |cons t j h=>intro L;rw[iM,h,dZ]
theorem pb(j:List Nat):∀(L:List (Option q))(i:Nat)(d:q),(j.foldl (λL i=>L.set i none) L)[i]? = some (some d)->L[i]? = some (some d)/\i ∉ j:=by
 induction j with
 |nil=>intro L i d h;exact⟨h,by simp⟩
 |cons t j s=>
  intro L i d h;rw[iM]at h;obtain⟨x,a⟩:=s _ _ _ h;by_cases e:t=i
  .subst e;by_cases l:t < L.length
   .rw [dX l]at x;cases x
   .rw [qW (by rw[dZ];lia)]at x;cases x
  .rw [aX e]at x;exact⟨x,by simp[a];exact λz=>e z.symm⟩
theorem qY(j:List Nat)(n:Nat)(L:List (Option q)):(lG j n L).length=L.length+n:=by unfold lG;rw[b_,fS,List.length_replicate]
theorem wm(h:(lG j n L)[i]? = some (some d)):L[i]? = some (some d)/\i ∉ j/\i < L.length:=by
 unfold lG at h;by_cases x:i < L.length
 .rw [List.getElem?_append_left (by rw[fS];exact x)]at h;obtain⟨a,e⟩:=pb j L i d h;exact⟨a,e,x⟩
 .rw [fK (by rw[fS];lia),uT]at h;split at h<;>cases h
variable{M:L2.St}
theorem RL.up(l:RL K F H m M L)(j:List Nat)(n:Nat):RL K F H m (lG j n M) (lG j n L):=by
 refine⟨by rw[qY,qY,l.len],λi d h=>?_⟩;obtain⟨a,s,f⟩:=wm h;obtain⟨v,e,r⟩:=l.at' i d a;refine⟨v,?_,r⟩;unfold lG;rw[List.getElem?_append_left (by rw[fS,l.len];exact f)];have k:∀(j:List Nat)(M:L2.St),i ∉ j->M[i]? = some (some v)->(j.foldl (λL i=>L.set i none) M)[i]? = some (some v):=by
  intro j;induction j with
  |nil=>intro M _ e;exact e
  |cons t j b=>intro M x e;rw[iM];refine b _ (λz=>x (a6 _ z)) ?_;rw[aX (λz=>x (by rw[z];exact List.mem_cons_self))];exact e
 exact k j M s e
noncomputable def l0(G:Scope)(e:Env):List (Str×Addr):=((G.names.filter λx=>x.2 == .free).map λx=>(x.1,(e.cells.lookup x.1).getD 0)).reverse
def inn(X:Cx)(G:Scope)(T:LS)(s:Shared)(H:Hp)(C:Addr)(f:List Addr):Cx:=
 { X with N:=T,s₀:=s,H₀:=H,env:=compEnvC G (l0 G X.env) C X.env,outer:=X.stack,ex:=f,fn:=λ_=>false,pn:=[],xe:=λ_ _=>False }
structure BlockOk(X:Cx)(scope:Scope)(N':LS)(ts:List Nat)(n:Nat):Prop where
 kind:scope.kind=.function
 cell:∀x ∈ scope.names,x.2≠.cell
 loc:∀x ∈ scope.names,x.2=.local->scope.names.lookup x.1=some .local
 fr:∀x ∈ scope.names,x.2=.free->scope.names.lookup x.1=some .free/\(X.env.kindOf x.1=some .cell\/X.env.kindOf x.1=some .free)
 names:X.N=N'.take X.N.length
 more:N'.length=X.N.length+n
 ts:∀x ∈ scope.names,x.2=.local->∀i:Nat,X.N[i]? = some x.1->i ∈ ts
theorem gQ:∀{l:List (Str×q)}{x:Str}{v:q},l.lookup x=some v->(x,v) ∈ l
 | [],_,_,h=>by simp at h
 |(y,w)::r,x,v,h=>by
  rw[qA]at h;cases e:x == y with
  |true=>rw[e]at h;cases h;rw[show x=y from by simpa using e];exact List.mem_cons_self
  |false=>rw[e]at h;exact a6 _ (gQ h)
theorem ke:∀{l:List (Str×q)}{x:Str}{v:q},(x,v) ∈ l->∃w,l.lookup x=some w
 | [],_,_,h=>by simp at h
 |(y,w)::r,x,v,h=>by
  rw[qA];cases e:x == y with
  |true=>exact⟨w,rfl⟩
  |false=>
   rcases ba.mp h with h|h
   .injection h with a _;subst a;simp at e
   .exact ke h
variable{x:Str}
theorem fA(h:(relabel G r).names.lookup x=some k):∃a,(x,a) ∈ G.names/\(k=a\/(k=.cell/\a=.free)):=by
 have m:=gQ h;unfold relabel at m;obtain⟨⟨n,a⟩,t,e⟩:=cN.mp m;by_cases c:(a == NameKind.free && r.scope.kind == .function && r.kindOf n == some .cell)=true
 .have s:(n,NameKind.cell)=(x,k):=by simpa[c] using e
  injection s with f b;subst f;rw[Bool.and_eq_true,Bool.and_eq_true]at c;exact⟨a,t,.inr ⟨b.symm,by simpa using c.1.1⟩⟩
 .have s:(n,a)=(x,k):=by simpa[c] using e
  injection s with f b;subst f;exact⟨a,t,.inl b.symm⟩
section
variable{X:Cx}{G:Scope}{T:LS}{j:List Nat}{n:Nat}
theorem BlockOk.cl(B:BlockOk X G T j n)(I:Inv X J M H s)(h:(l0 G X.env).lookup x=some c):X.env.cells.lookup x=some c/\(x,NameKind.free) ∈ G.names:=by
 have t:=gQ h;unfold l0 at t;obtain⟨⟨y,k⟩,m,e⟩:=cN.mp (List.mem_reverse.mp t);obtain⟨m,d⟩:=iN.mp m;have r:k=.free:=by simpa using d
 subst r;injection e with q f;subst q;obtain⟨_,v⟩:=B.fr _ m rfl;obtain⟨p,a⟩:=I.ok.has y v;dsimp only at f;rw[a]at f;have b:p=c:=f;subst b;exact⟨a,m⟩
theorem BlockOk.has(B:BlockOk X G T j n)(h:(x,NameKind.free) ∈ G.names):∃c,(l0 G X.env).lookup x=some c:=by unfold l0;exact ke (v:=(X.env.cells.lookup x).getD 0) (List.mem_reverse.mpr (cN.mpr ⟨(x,.free),iN.mpr ⟨h,by simp⟩,rfl⟩))
theorem Af(B:BlockOk X G T j n)(I:Inv X r M H s)(C:s.heap.objs.size≤k)(f:∀b ∈ t,sU X r H b)(d:∀b ∈ t,b < s.heap.objs.size) :
  (inn X G T s H k t).Ok where
 mod:=I.ok.mod
 kind:=B.kind
 glob:=I.ok.glob
 blt:=I.ok.blt
 above:=C
 inj:=λx y c q v=>I.ok.inj x y c (B.cl I q).1 (B.cl I v).1
 has:=λx h=>by
  have p:(relabel G X.env).names.lookup x=some .cell\/(relabel G X.env).names.lookup x=some .free:=h;rcases p with h|h
  .obtain⟨w,m,e|⟨_,e⟩⟩:=fA h
   .subst e;exact absurd rfl (B.cell _ m)
   .subst e;exact B.has m
  .obtain⟨w,m,e|⟨e,_⟩⟩:=fA h
   .subst e;exact B.has m
   .cases e
 cab:=λx c h=>nomatch h
 hd:=I.ok.hd
 frames:=I.ok.frames
 stk:=.inl rfl
 exf:=λb a=>⟨bM (cg (d b a) C),λx c h=>(f b a).2.2.2.2.1 x c (B.cl I h).1⟩
 bs:=I.bs
 bsz:=aU I.ok.bsz I.sz
 noex:=λb o e a=>by
  rcases(f b a).2.2.2.1 with z|z
  .exact I.ok.noex b o e z
  .exact absurd (cg (Heap.lt_size (I.ok.bs b o e).1) z) (jt _)
 exfs:=λb a z=>by
  rcases ba.mp (I.stkSub b z) with z|z
  .exact (f b a).2.1 z
  .exact (f b a).2.2.1 z
 funs:=I.stack
 frf:=I.stkFree
theorem _root_.L2.Un.sameBut(u:Un fs r H H' h t)(s:Heap.SameBut k t J)(C:∀b o,h.get? b=some o->b≠k):Un fs r H H' h J where
 keep:=λb o e n a x=>s.extBut b o (C b o e) (u.keep b o e n a x)
 slot:=λb o e n a x=>by obtain⟨l,q⟩:=u.slot b o e n a x;exact⟨l,s.extBut b _ (C b o e) q⟩
 free:=u.free
 there:=λb o e x=>by obtain⟨f,q⟩:=u.there b o e x;exact⟨f,s.extBut b _ (C b o e) q⟩
 tups:=u.tups
 frzs:=u.frzs
 tbls:=u.tbls
theorem _root_.L2.jk.sameBut{P:Program}{w:World}{H:Hp}{h x:Heap}{C:Addr}(ok:jk P w H h)(n:Heap.SameBut C h x)(a:H C=none):jk P w H x:=λb u e=>
 (ok b u e).stay (fun c v s q=>n.extBut c v (by
  rintro rfl;rcases s with z|z
  .subst z;rw[a]at e;cases e
  .rw [a]at z;cases z) q) (λ_ q=>q) λ_ _ q=>q
inductive PIfs(X:Cx):Ab->EB->Prop where
 |none:PIfs X [] ir
 |one {c:Expr}{q:EB}:PT X c (tQ X.K q)->PIfs X [c] q
theorem Kp.bump(x:¬F p)(t:∀xs,H p≠some (.tup xs)):Kp F m H F m (bW H p o):=
 ⟨⟨[],by simp⟩,λ_ h=>h,λb u f h=>by rw[ao (by rintro rfl;exact x f)];exact h,λb xs h=>by rw[ao (by rintro rfl;exact t xs h)];exact h⟩
theorem Stp.bump(s:Stp F m H F' m' H')(x:H p=none):Stp F m H F' m' (bW H' p o) where
 pre:=s.pre
 oth:=λb u h a=>by rw[ao (by rintro rfl;rw[x]at h;cases h)];exact s.oth b u h a
 frz:=s.frz
 frk:=λb u f h=>by rw[ao (by rintro rfl;rw[x]at h;cases h)];exact s.frk b u f h
 tup:=λb xs h=>by rw[ao (by rintro rfl;rw[x]at h;cases h)];exact s.tup b xs h
 trk:=λb h=>by
  by_cases e:b=p
  .subst e;rw[aE];exact λz=>nomatch z
  .rw [ao e];exact s.trk b h
 nf:=s.nf
 nm:=s.nm
theorem Rel.bump(r:Rel K F H m S)(x:¬F p)(s:p ∉ m)(t:∀xs,H p≠some (.tup xs)):Rel K F (bW H p o) m S:=
 r.stayK (Kp.bump x t) (λa u e h=>by rw[ao (by rintro rfl;exact s e)];exact h) (λ_ f=>.inl f) λa f=>by rw[ao (by rintro rfl;exact x f)];exact r.ft a f
theorem LL:Kp F m H (λb=>F b\/b=p) m H:=⟨⟨[],by simp⟩,λ_ h=>.inl h,λ_ _ _ h=>h,λ_ _ h=>h⟩
theorem Stp.addF(s:Stp F m H F' m' H')(x:H p=none):Stp F m H (λb=>F' b\/b=p) m' H':=
 ⟨s.pre,s.oth,fun b h=>.inl (s.frz b h),s.frk,s.tup,s.trk,fun b h=>by
  rcases h with h|h
  .exact s.nf b h
  .subst h;exact .inr (.inl x),s.nm⟩
theorem Rel.addF(r:Rel K F H m S)(s:p ∉ m)(n:H p≠none):Rel K (λb=>F b\/b=p) H m S where
 len:=r.len
 nd:=r.nd
 obj:=λi a o e x=>(r.obj i a o e x).kp LL λu h=>h
 sep:=λi a o e x w f=>by
  rcases f with f|f
  .exact r.sep i a o e x w f
  .subst f;exact s (bL e)
 trk:=r.trk
 ft:=λa f=>by
  rcases f with f|f
  .exact r.ft a f
  .subst f;exact n
theorem _root_.L2.Inv.letGo(I:Inv X k M H s)(f:Heap.SameBut h s.heap t)(C:H h=none)(v:X.s₀.heap.objs.size≤h)(d:h≠X.env.locals)
  (w:∀x c,X.env.cells.lookup x=some c->c≠h) (u:∀p ∈ X.pn++k,p.1≠h):Inv X k M H { s with heap:=t }:=by
 have r:∀b:Addr,b ∉ [h]->b≠h:=λb m z=>m (by simp[z]);refine I.call' (z:={ s with heap:=t }) (N:=[h]) rfl ⟨λb o e _ _ a=>f.extBut b o (r b a) e,λb o e _ _ a=>⟨o.slots,f.extBut b o (r b a) e⟩,λ_ _ _ n _=>n,λb o e a=>⟨o,f.extBut b o (r b a) e⟩,λ_ _ q=>q,λ_ _ _ q=>q,λb g q=>⟨#[],by rw[q];simp⟩⟩ (I.hok.sameBut f C) I.bare λb m=>?_;have e:b=h:=by simpa using m
 subst e;exact⟨.inr v,d,w,u⟩
theorem yh(I:Nat->Shared->Prop)
  (u:∀n s,I n s->wpAny (model t w) A (pyNext it) (fun r f=>match r with
   |none=>R (.ok .next) f
   | some v=>wpAny (model t w) A (letOwnedTupleGo tg it v) (fun _ d=>wpAny (model t w) A (assign tg k v) (fun _ g=>
     wpAny (model t w) A (forIn ifs true fun c r=>if r=true then do let ok <- isTrue c k (eval c k);pure (ForInStep.yield ok) else pure (ForInStep.yield r)) (fun ok b=>
      if ok=true then wpAny (model t w) A (eval elt k) (fun x i=>
       wpAny (model t w) A (call (.builtin "list.append") [J,x]) (λ_ j=>∃m,m < n/\I m j) (notedBy (model t w) A k λe a=>R (.error e) a) i) (notedBy (model t w) A k λe a=>R (.error e) a) b
      else ∃m,m < n/\I m b) (notedBy (model t w) A k λe a=>R (.error e) a) g) (notedBy (model t w) A k λe a=>R (.error e) a) d) (notedBy (model t w) A k λe a=>R (.error e) a) f) (notedBy (model t w) A k λe a=>R (.error e) a) s)
  (n:Nat) (h:I n s):codeAny (model t w) A (.compLoop (.ListComp elt [⟨tg,iter,ifs,0⟩] G N) 0 it J k) R s:=by
 refine codeAny_loop rfl I (λn s S=>?_) n h;show wpAny _ A ((compTurn (.ListComp elt [⟨tg,iter,ifs,0⟩] G N) 0 it J k).onRaise (λx=>do noteFrame x k;theTreesLotGoes x)) _ _ s;refine wpAny_noted ?_;rw[compTurn_list];refine wpAny_bind (wpAny_standAt (wpAny_bind (wpAny_mono (u n s S) (λr f p=>?_) λ_ _ z=>z)));cases r with
 |none=>exact wpAny_pure p
 |some v=>
  refine wpAny_bind (wpAny_mono p (λ_ d l=>wpAny_bind (wpAny_mono l (λ_ g y=>wpAny_bind (wpAny_mono y (λok b q=>?_) λ_ _ z=>z)) λ_ _ z=>z)) λ_ _ z=>z);cases ok with
  |false=>exact wpAny_pure ⟨rfl,q⟩
  |true=>exact wpAny_bind (wpAny_bind (wpAny_mono q (λx i o=>wpAny_bind (wpAny_mono o (λ_ j H=>wpAny_pure (wpAny_pure ⟨rfl,H⟩)) λ_ _ z=>z)) λ_ _ z=>z))
theorem Cj{w:Heap}{tk:Nat}(B:BlockOk X G T j n)(I:Inv X J M U k)(C:k.heap.objs.size≤h)(W:∀b ∈ fp,sU X J U b)(K:∀b ∈ fp,b < k.heap.objs.size)(l:∀b o,k.heap.get? b=some o->w.get? b=some o)
  (Y:U k.heap.objs.size=none) (D:k.heap.objs.size≠h) (F:U h=none) (t:w.Ns h mC) (a:w.get? k.heap.objs.size=some { cls:=.type "list",dict:=none,data:=.seq ([]:LV).toArray }) :
  Inv (inn X G T k U h fp) [] (lG j n M) (bW U k.heap.objs.size (.lst [])) { k with heap:=w,toks:=tk }:=by
 refine⟨Af B I C W K,rfl,I.bare,Un.laid l (Nat.le_refl _) Y,?_,λx c e=>?_,?_,λx c e=>?_,λp hp=>absurd (show p ∈ ([]:PN) from hp) (by simp),?_,?_⟩
 .obtain⟨m0,Z,P⟩:=I.loc;refine⟨_,t,λi x v Q R hv=>?_⟩;obtain⟨g,H,S⟩:=wm R;have r:M.length=X.N.length:=I.len;have L:X.N[i]? = some x:=by
   rw[B.names,iP (by rw[<- r];exact S)];exact Q
  have d:(relabel G X.env).names.lookup x=some .local\/(relabel G X.env).names.lookup x=some .cell\/(relabel G X.env).names.lookup x=some .free:=hv;have O:¬(relabel G X.env).names.lookup x=some .local:=λz=>by
   obtain⟨N,m,e|⟨e,_⟩⟩:=fA z
   .subst e;exact absurd (B.ts _ m rfl i L) H
   .cases e
  have E:(x,NameKind.free) ∈ G.names:=by
   rcases d with z|z|z
   .exact absurd z O
   .obtain⟨N,m,e|⟨_,e⟩⟩:=fA z
    .subst e;exact absurd rfl (B.cell _ m)
    .subst e;exact m
   .obtain⟨N,m,e|⟨e,_⟩⟩:=fA z
    .subst e;exact m
    .cases e
  obtain⟨_,f⟩:=B.fr _ E rfl;have A:Db X.env.scope x:=by
   rcases f with z|z
   .exact .inr (.inl z)
   .exact .inr (.inr z)
  obtain⟨u,ru,lk⟩:=P i x v L g A;refine⟨u,ru,.inr ⟨?_,?_⟩⟩
  .rcases d with z|z|z
   .exact absurd z O
   .exact .inl z
   .exact .inr z
  .rcases lk with ⟨z,_⟩|⟨_,c,V,ic⟩
   .rcases f with y|y
    .rw [z]at y;cases y
    .rw [z]at y;cases y
   .obtain⟨c',s⟩:=B.has E;have:=(B.cl I s).1
    rw[V]at this;cases this;obtain⟨o,q,hd⟩:=ic;exact⟨c,s,o,l c o q,hd⟩
 .obtain⟨v,o,q,hd⟩:=I.cell x c (B.cl I e).1;exact⟨v,o,l c o q,hd⟩
 .show bW U k.heap.objs.size (.lst []) h=none;rw[ao (Ne.symm D)];exact F
 .obtain⟨v,o,q,hd⟩:=I.cell x c (B.cl I e).1;rw[ao (bM (Heap.lt_size q))];exact I.freeC x c (B.cl I e).1
 .exact I.hok.laid l (Nat.le_refl _) ⟨Nat.zero_le _,[],0,.nil,a⟩
 .show (lG j n M).length=T.length;rw[qY,I.len,B.more]
inductive cIv(K:FG)(Y:Cx)(F1:Aa)(m1:List Addr)(H2:Hp)(A:Addr)(tn:Nat->Heap->Prop)(fp:List Addr)(R:Nat->Nat->Lc->aD->List P->Prop)(ys:List P)(nn:Nat)(sx:Shared):Prop
 |mk (i:Nat) (σ':L2.St) (F':Aa) (m':List Addr) (H':Hp) (L':Lc) (S':aD) (acc bO:List P) (xs:List V) (h0_:Inv Y [] σ' H' sx) (h1_:tn i sx.heap) (h2_:∀b ∈ fp,H' b=none) (h3_:Stp F1 m1 H2 F' m' H') (h4_:Rel K F' H' m' S') (h5_:RL K F' H' m' σ' L') (h6_:H' A=some (.lst xs)) (h7_:cC K F' H' acc xs) (h8_:acc.length≤i) (h9_:¬F' A) (ha_:A ∉ m') (hb_:R nn i L' S' bO) (hc_:acc++bO=ys):cIv K Y F1 m1 H2 A tn fp R ys nn sx
theorem qm 
  (B:BlockOk X G T j n) (hcalm:X.calm=true)
  (hi:PI X tg iter (tI X.K fi)) (hg:∀s H C D,PG (inn X G T s H C D) tg (gT X.K g)) (hc:∀s H C D,PIfs (inn X G T s H C D) ifs fc) (he:∀s H C D,PE (inn X G T s H C D) elt (tV X.K l))
  (hclos:closureFor G X.env=pure (l0 G X.env)) (hs:∀x,foldedSetIterable iter X.env x=pure x)
  (h:Inv X pins M H s) (r:Rel X.K F H m S) (a:RL X.K F H m M L) (q:bo fi j n g fc l L S=some (d,S2))
  (fin:∀p F' m' H' sx C,Inv X pins M H' sx->Stp F m H F' m' H'->Rel X.K F' H' m' S2->RP X.K F' H' d (.ref p)->H' C=none->X.s₀.heap.objs.size≤C->C≠X.env.locals->(∀x c,X.env.cells.lookup x=some c->c≠C)->(∀p ∈ X.pn++pins,p.1≠C) ->
   (∃mC,sx.heap.Ns C mC)->compPost (model X.prog X.w) X.A X.xe use k (.ref p) C (.ok .next) sx) :
  wpAny (model X.prog X.w) X.A (comprehension (.ListComp elt [⟨tg,iter,ifs,0⟩] G N) G X.env p2 (newList []) false (eval iter X.env) use) k X.xe s:=by
 obtain⟨V,S1,e1,q⟩:=ai q;split at q;case isFalse=>cases q
 rename_i hfew;obtain⟨ys,S2',e2,q⟩:=ai q;cases q;refine wpAny_comprehension_free (use:=use) rfl hs hclos B.kind B.loc (cV (hi pins s M H _ h ⟨F,m,L,S,V,S1,r,a,e1,λJ Y m1 I s1 r1 it=>(show(λJ I=>∃Y m1,Stp F m H Y m1 I/\Rel X.K Y I m1 S1/\FW X.K J V Y m1 I) J I from ⟨Y,m1,s1,r1,it⟩)⟩) λxv sA hA=>cV hA λitv P h2=>?_);obtain⟨it,D,tn,J,U,rfl,I2,t,st2,f2,Y,m1,s1,r1,itp⟩:=h2;have hfp:∀b ∈ D,b < P.heap.objs.size:=λb E=>by obtain⟨o,e,_⟩:=t.obj _ _ st2 b E;exact Heap.lt_size e
 refine wpAny_newObj_type ?_ (by show 0≤sizeLine;exact Nat.zero_le _);refine wpAny_newFunctionEnv B.cell (by intro y hy;simp at hy) (λh1 hns1 hsb1=>?_) B.kind;dsimp only at hns1 hsb1 ⊢;have hD:U P.heap.objs.size=none:=I2.hok.fresh (Nat.le_refl _);generalize hH2:P.heap.push { cls:=.type "list",dict:=none,data:=.seq ([]:LV).toArray }=K at hns1 hsb1 ⊢;have hC:K.objs.size=P.heap.objs.size+1:=by rw[<- hH2,Heap.size_push]
 have A:P.heap.objs.size≤K.objs.size:=by rw[hC];exact mW _
 have old:∀b o,P.heap.get? b=some o->h1.get? b=some o:=λb o e=>hsb1.extBut b o (bM (cg (Heap.lt_size e) A)) (Heap.get?_push_of_some _ (hH2 ▸ Heap.get?_push_of_some _ e));have hDC:P.heap.objs.size≠K.objs.size:=by rw[hC];exact bM (qC _)
 have accO:h1.get? P.heap.objs.size=some { cls:=.type "list",dict:=none,data:=.seq ([]:LV).toArray }:=hsb1.extBut _ _ hDC (Heap.get?_push_of_some _ (hH2 ▸ Heap.get?_push_size _ rfl));have hCn:U K.objs.size=none:=I2.hok.fresh A;have hCcell:∀x c,X.env.cells.lookup x=some c->c≠K.objs.size:=λx c e z=>by obtain⟨v,o,ho,_⟩:=I2.cell x c e;exact absurd (Heap.lt_size ho) (Nat.not_lt.mpr (by rw[z];exact A))
 have hCloc:K.objs.size≠X.env.locals:=cO (cg I2.lt A);have hCpin:∀p ∈ X.pn++pins,p.1≠K.objs.size:=λp hp z=>absurd (Heap.lt_size (I2.pin p hp).1) (Nat.not_lt.mpr (by rw[z];exact A));have I3:=Cj (tk:=P.toks+([]:List (Str×Value)).length) B I2 A f2 hfp old hD hDC hCn hns1 accO;have okX:=Af (k:=K.objs.size) B I2 A f2 hfp;have fpH:∀{H':Hp},(∀b ∈ D,H' b=none)->∀b ∈ D,sU (inn X G T P U K.objs.size D) [] H' b:=λhn b E=>
  ⟨hn b E,bM (cg (hfp b E) A),okX.exfs b E,.inl E,(okX.exf b E).2,λp hp=>absurd (show p ∈ ([]:PN) from hp) (by simp)⟩
 have tn1:tn 0 h1:=t.keep _ _ _ st2 λb E o e=>old b o e;have loop:∀s3:Shared,s3={ P with heap:=h1,toks:=P.toks+([]:List (Str×Value)).length } ->
   codeAny (model X.prog X.w) X.A (.compLoop (.ListComp elt [⟨tg,iter,ifs,0⟩] G N) 0 (.ref it) (.ref P.heap.objs.size) (compEnvC G (l0 G X.env) K.objs.size X.env))
    (compPost (model X.prog X.w) X.A X.xe use k (.ref P.heap.objs.size) K.objs.size) s3:=by
  rintro s3 rfl;refine yh (cIv X.K (inn X G T P U K.objs.size D) Y m1 U P.heap.objs.size tn D (λnn i L' O bO=>nn=V.length-i/\i≤V.length/\bA g fc l (V.drop i) L' O=some (bO,S2)) ys) ?_ V.length ?_
  .rintro nn sx ⟨i,σ',F',m',H',L',O,acc,bO,xs,I',tn',fr',st',r',l',hacc,ra,hal,nF,nm,⟨rfl,hi',R⟩,rfl⟩;obtain⟨hgo,hstop⟩:=itp F' m' H' st';by_cases hlt:i < V.length
   .have hv:V[i]? = some V[i]:=by simp[hlt]
    rw[List.drop_eq_getElem_cons hlt]at R;obtain⟨hgo1,hy⟩:=hgo i _ hv;refine wpAny_mono (t.item (inn X G T P U K.objs.size D) rfl rfl rfl hcalm i [] sx σ' H' (λ_ _=>False) I' (fpH fr') tn' hgo1) (λrr sy hr=>?_) (λ_ _ f=>f.elim);obtain⟨u,rfl,hr⟩:=hr;refine wpAny_mono hr (λ_ sz hz=>?_) (λ_ _ f=>f.elim);obtain⟨x,H3,I4,rx,yl,tn4,fr4⟩:=hz;obtain⟨F3,gr,p3⟩:=hy x H3 yl;have G2:Stp Y m1 U F3 m' H3:=st'.trans gr.stp;have r4:=r'.grow gr;have l4:=l'.mono (gr.stp (m:=m'));have acc4:=gr.keep _ _ hacc;have nF4:¬F3 P.heap.objs.size:=λz=>by
     rcases gr.nf _ z with z|⟨z,_⟩
     .exact nF z
     .rw [hacc]at z;cases z
    have I4':=I4.pinned (fpH fr4) (t.obj _ _ tn4);have back:∀{σ7:L2.St}{H7:Hp}{s7:Shared},Inv (inn X G T P U K.objs.size D) ([]++lK D sz.heap) σ7 H7 s7->tn (i+1) s7.heap/\∀b ∈ D,H7 b=none:=λ{σ7 H7 s7} I7=>
     ⟨t.keep _ _ _ tn4 λb E o e=>(I7.pin (b,o) (gi _ (gi _ (iZ E e)))).1,λb E=>by obtain⟨o,e,dd⟩:=t.obj _ _ tn4 b E;exact(I7.pin (b,o) (gi _ (gi _ (iZ E e)))).2.1⟩
    unfold bA at R;cases eg:g V[i] L' with
    |none=>rw[eg]at R;cases R
    |some L1=>
     rw[eg]at R;dsimp only at R;obtain⟨kk,S5,e5,R⟩:=ai R;refine wpAny_mono (hg P U K.objs.size D _ sz σ' H3 x u (λQ H5=>H5=H3/\RL X.K F3 H3 m' Q L1) I4' rx ⟨F3,m',L',V[i],L1,l4,p3,eg,λQ l5=>⟨rfl,l5⟩⟩) (λ_ s5 h5=>?_) (λ_ _ f=>f.elim);obtain⟨Q,H5,I5,rfl,l5⟩:=h5;have test:wpAny (model X.prog X.w) X.A (forIn ifs true λc r=>if r=true then do let ok <- isTrue c (compEnvC G (l0 G X.env) K.objs.size X.env) (eval c (compEnvC G (l0 G X.env) K.objs.size X.env));pure (ForInStep.yield ok) else pure (ForInStep.yield r))
       (λok s6=>ok=kk/\∃W m6 H6,Inv (inn X G T P U K.objs.size D) ([]++lK D sz.heap) Q H6 s6/\Stp F3 m' H5 W m6 H6/\Rel X.K W H6 m6 S5) (λ_ _=>False) s5:=by
      have hcc:=hc P U K.objs.size D;cases hcc with
      |none=>cases e5;exact wpAny_tests_nil ⟨rfl,F3,m',H5,I5,.refl,r4⟩
      |one hq=>refine wpAny_tests_one (wpAny_mono (hq _ s5 Q H5 (λb H6=>b=kk/\∃W m6,Stp F3 m' H5 W m6 H6/\Rel X.K W H6 m6 S5) I5 ⟨F3,m',L1,O,kk,S5,r4,l5,e5,λW m6 H6 s6 r6=>⟨rfl,W,m6,s6,r6⟩⟩) (λb s6 h6=>?_) λ_ _ f=>f);obtain⟨H6,I6,rfl,W,m6,yW,r6⟩:=h6;exact⟨rfl,W,m6,H6,I6,yW,r6⟩
     refine wpAny_mono test (λok s6 h6=>?_) (λ_ _ f=>f.elim);obtain⟨rfl,W,m6,H6,I6,yW,r6⟩:=h6;have Z:=yW.oth _ _ acc4 nm;have nm6:P.heap.objs.size ∉ m6:=λz=>by
      rcases yW.nm _ z with z|z
      .exact nm z
      .rw [acc4]at z;cases z
     have nF6:¬W P.heap.objs.size:=λz=>by
      rcases yW.nf _ z with z|z|z
      .exact nF4 z
      .rw [acc4]at z;cases z
      .exact nm z
     have ra6:=cC.mono yW (ra.grow gr);have l6:=l5.mono yW;cases ok with
     |false=>rw[if_neg b9]at R ⊢;obtain⟨t7,f7⟩:=back I6;exact⟨V.length-(i+1),by lia,i+1,Q,W,m6,H6,L1,S5,acc,bO,xs,I6.pins_of λp hp=>absurd hp (by simp),t7,f7,G2.trans yW,r6,l6,Z,ra6,Nat.le_succ_of_le hal,nF6,nm6,⟨rfl,hlt,R⟩,rfl⟩
     |true=>
      rw[if_pos rfl]at R ⊢;obtain⟨y,S8,e8,R⟩:=ai R;obtain⟨zs,S9,e9,R⟩:=ai R;cases R;refine wpAny_mono (he P U K.objs.size D _ s6 Q H6 (λv8 H8=>∃F8 m8,Stp W m6 H6 F8 m8 H8/\Rel X.K F8 H8 m8 S8/\RP X.K F8 H8 y v8) I6 ⟨W,m6,L1,S5,y,S8,r6,l6,e8,λv8 F8 m8 H8 s8 r8 p8=>⟨F8,m8,s8,r8,p8⟩⟩) (λu8 s8 h8=>?_) (λ_ _ f=>f.elim);obtain⟨v8,H8,I8,rv8,F8,m8,st8,r8,p8⟩:=h8;have acc8:=st8.oth _ _ Z nm6;have nm8:P.heap.objs.size ∉ m8:=λz=>by
       rcases st8.nm _ z with z|z
       .exact nm6 z
       .rw [Z]at z;cases z
      have nF8:¬F8 P.heap.objs.size:=λz=>by
       rcases st8.nf _ z with z|z|z
       .exact nF6 z
       .rw [Z]at z;cases z
       .exact nm6 z
      have ra8:=cC.mono st8 ra6;have nt8:∀zs,H8 P.heap.objs.size≠some (.tup zs):=λzs z=>by rw[acc8]at z;cases z
      have hl8:xs.length < sizeLine:=by have h9:V.length≤1000000:=aS hfew;rw[<- ra8.length];exact cg (ly hal hlt) (aU h9 (by decide))
      refine wpAny_mono (pW (X:=inn X G T P U K.objs.size D) _ s8 Q H8 (.ref P.heap.objs.size) [v8] (.ref P.heap.objs.size) [u8] (λ_ H9=>H9=bW H8 P.heap.objs.size (.lst (xs++[v8]))) I8 rfl (.cons rv8 .nil) ⟨_,xs,v8,rfl,rfl,acc8,hl8,rfl⟩) (λ_ s9 h9=>?_) (λ_ _ f=>f.elim);obtain⟨_,H9,I9,_,rfl⟩:=h9;obtain⟨t9,f9⟩:=back I9;have kb:Kp F8 m8 H8 F8 m8 (bW H8 P.heap.objs.size (.lst (xs++[v8]))):=Kp.bump nF8 nt8;have st9:Stp Y m1 U F8 m8 (bW H8 P.heap.objs.size (.lst (xs++[v8]))):=(G2.trans (yW.trans st8)).bump hD;have l9:RL X.K F8 (bW H8 P.heap.objs.size (.lst (xs++[v8]))) m8 Q L1:=⟨l6.len,λw dd e=>by obtain⟨v,e1,rr⟩:=(l6.mono st8).at' w dd e;exact⟨v,e1,RD.kp kb rr⟩⟩
      exact⟨V.length-(i+1),by lia,i+1,Q,F8,m8,_,L1,S8,acc++[y],zs,xs++[v8],I9.pins_of fun p hp=>absurd hp (by simp),t9,f9,st9,r8.bump nF8 nm8 nt8,l9,aE,
       cC.kp kb (ra8.append ⟨v8,[],rfl,p8,rfl⟩),by rw[b_];exact Nat.succ_le_succ hal,nF8,nm8,⟨rfl,hlt,e9⟩,by simp⟩
   .have e:i=V.length:=by lia
    subst e;rw[qN]at R;cases R;refine wpAny_mono (t.done (inn X G T P U K.objs.size D) rfl rfl rfl hcalm V.length [] sx σ' H' (λ_ _=>False) I' (fpH fr') tn' hstop) (λrr sy hr=>?_) (λ_ _ f=>f.elim);obtain⟨rfl,I5⟩:=hr;rw[List.append_nil] at *
    have Iout:Inv X pins M H' sy:=I2.call' (N:=D) I5.os I5.base I5.hok I5.bare λb E=>⟨(f2 b E).2.2.2.1,(f2 b E).2.1,(f2 b E).2.2.2.2.1,(f2 b E).2.2.2.2.2⟩;have hD0:H P.heap.objs.size=none:=by
     cases q:H P.heap.objs.size with
     |none=>rfl
     |some o=>exact absurd hD (s1.trk _ (by rw[q];exact λz=>nomatch z))
    have hCH:H' K.objs.size=none:=I5.free;obtain⟨mC,hmC,_⟩:=I5.loc;exact fin P.heap.objs.size (λb=>F' b\/b=P.heap.objs.size) m' H' sy K.objs.size Iout ((s1.trans st').addF hD0) (r'.addF nm (by rw[hacc];exact λz=>nomatch z))
     ⟨_,xs,rfl,⟨.inr rfl,hacc⟩,cC.kp (m:=m') LL ra⟩ hCH (aU I2.sz A) hCloc hCcell hCpin ⟨mC,hmC⟩
  .exact⟨0,_,Y,m1,_,lG j n L,S1,[],ys,[],I3,tn1,λb E=>by rw[ao (bM (hfp b E))];exact(f2 b E).1,(cx hD).stp,r1.grow (cx hD),((a.mono s1).mono (cx hD).stp).up j n,aE,rfl,Nat.zero_le _,r1.fresh_F hD,r1.fresh_m hD,⟨rfl,Nat.zero_le _,by rw[mX];exact e2⟩,rfl⟩
 exact codeAny_compStart_list (loop _ rfl) (t.self X.A 0 _ _ _ tn1 (loop _ rfl))
theorem Gm(B:BlockOk X G T j n)(c:X.calm=true)
  (D:PI X tg iter (tI X.K fi)) (A:∀s H C f,PG (inn X G T s H C f) tg (gT X.K g)) (K:∀s H C f,PIfs (inn X G T s H C f) J fc) (P:∀s H C f,PE (inn X G T s H C f) t (tV X.K l))
  (o:closureFor G X.env=pure (l0 G X.env)) (E:∀x,foldedSetIterable iter X.env x=pure x:=by intro _;rfl) :
  PE X (.ListComp t [⟨tg,iter,J,0⟩] G N) (tV X.K (bo fi j n g fc l)):=by
 intro i s M H h I ⟨F,m,L,S,d,O,r,a,q,k⟩;rw[eval_ListComp];refine qm B c D A K P o E I r a q λp F' m' H' sx C b Q V W z v w u y R=>?_
 obtain⟨U,e⟩:=R;exact⟨U,e,λZ Y=>⟨.ref p,H',b.letGo Y z v w u y,rfl,k _ F' m' H' Q V W⟩⟩
theorem F9(i:Nat)(hN:X.N.Nodup)(B:BlockOk X G T j n)(c:X.calm=true)
  (hi:PI X tg iter (tI X.K fi)) (hg:∀s H C f,PG (inn X G T s H C f) tg (gT X.K g)) (hc:∀s H C f,PIfs (inn X G T s H C f) J fc) (he:∀s H C f,PE (inn X G T s H C f) t (tV X.K l))
  (o:closureFor G X.env=pure (l0 G X.env)) (P:swapsWith (.ListComp t [⟨tg,iter,J,0⟩] G N) (some (.Name x px)) spos.line X.env=pure true:=by rfl)
  (hs:∀x,foldedSetIterable iter X.env x=pure x:=by intro _;rfl) (z:X.N[i]? = some x:=by rfl) (hx:Loc X.env.scope x:=by first|exact Or.inl rfl|exact Or.inr rfl)
  (hf:X.fn x=true\/X.env.scope.names.lookup x=some .local:=by first|exact .inl rfl|exact .inr rfl|assumption) :
  PS X (.Assign [.Name x px] (.ListComp t [⟨tg,iter,J,0⟩] G N) spos) (jn X.K (am i (eV (bo fi j n g fc l)))):=by
 intro u s M H D I ⟨F,m,L,S,fl,L',O,r,h,q,k⟩;obtain⟨d,S1,W,q⟩:=ai q;cases q;obtain⟨v,S2,Y,Z⟩:=ai W;cases Z;rw[exec_Assign_Name_used _ _ _ _ P];refine wpAny_bind (wpAny_standAt (wpAny_bind ?_));show wpAny _ _ (do let _ <- comprehension (.ListComp t [⟨tg,iter,J,0⟩] G N) G X.env _ (newList []) false (eval iter X.env) (some (assign (.Name x px) X.env))) _ _ s;refine wpAny_bind (wpAny_mono (qm (use:=some (assign (.Name x px) X.env)) (k:=λ_ A=>SP X u D .next A) B c hi hg hc he o hs I r h Y λp F' m' H' sx C V Q r' rp hC h0 R U h3 hz=>?_) (λ_ A hq=>wpAny_pure (wpAny_pure hq)) λ_ _ e=>e);obtain⟨mC,K⟩:=hz;refine wpAny_assign_Name (lH V hN z hx (v:=.ref p) rfl (λA y w=>?_) hf);refine⟨mC,?_,λh' sb=>⟨_,H',y.letGo sb hC h0 R U h3,k _ F' m' H' Q r' ((h.mono Q).set (d:=.p v) rp i)⟩⟩;obtain⟨a,E,b⟩:=w;refine K.sameBut E ?_;rcases b with b|b
 .rw [b];exact R
 .exact Ne.symm (U x a b)
end
end Ev
namespace Ev
open PySem PySem.Spec PyProof.Rows L2
section
variable{X:Cx}{a b e:Expr}{es:Ab}{C U:EV}{fs:gC}{J p:Pos}
noncomputable def oO:P->Option P
 | .int i=>some (.int (-i))
 |_=>none
theorem J7(f:PE X a (tV X.K C)):PE X (.UnaryOp .USub a J) (tV X.K (yI oO C)):=(He DA f).imp' λN H Q z=>by
 obtain⟨F,m,L,S,d,t,r,l,q,k⟩:=z;obtain⟨x,w,n,q⟩:=ai q;cases x with
 |int i=>cases q;exact⟨F,m,L,S,_,_,r,l,n,λv h b e s c p=>⟨i,p,k _ h b e s c rfl⟩⟩
 |_=>cases q
noncomputable def yu:P->String
 | .non=>"NoneType"
 | .bl _=>"bool"
 | .int _=>"int"
 | .str _=>"str"
 | .tup _=>"tuple"
 | .lst _=>"list"
 | .ro _=>"list"
 | .dct _ _=>"dict"
def gU(T:String)(v:P):Bool:=yu v == T ||(T == "int" && yu v == "bool")
theorem AI(T:∀K:FG,∀v:P,PySem.W.kitOne K (.type (yu v)) (.type l)=some (gU l v)) :
  dU X (.builtin "isinstance") (λm H Q=>∃F d x,m=[x,.ty l]/\RP X.K F H d x/\Q (.bl (gU l d)) H):=by
 intro B s N H m G Q I r h;obtain⟨F,d,x,rfl,pd,q⟩:=h;obtain⟨u,D,rfl,k,w⟩:=vals2 r;cases (show D=Value.type l from w);have e:=T X.K d;have f:∀S,EP X B N Q (.bool (gU l d)) { s with toks:=S }:=λS=>⟨.bl (gU l d),H,I.tok _,rfl,q⟩
 cases d with
 |non=>cases (show x=.non from pd);exact gL I k (.non) e f
 |bl y=>cases (show x=.bl y from pd);exact gL I k (.bl y) e f
 |int y=>cases (show x=.int y from pd);exact gL I k (.int y) e f
 |str y=>cases (show x=.str y from pd);exact gL I k (.str y) e f
 |tup g=>obtain⟨a,m,rfl,t,j⟩:=pd;cases k;obtain⟨i,_,⟨o,b,c,_⟩,_⟩:=I.tuple t.sq;exact d4 PySem.W.kitx_tuple I.kIn ⟨o,b,c⟩ e (λz=>nomatch z) f
 |lst g=>obtain⟨a,m,rfl,t,j⟩:=pd;cases k;obtain⟨i,_,p,_⟩:=I.list t.sq;obtain⟨o,n,b,c,_⟩:=p;exact d4 ny I.kIn ⟨o,b,c⟩ e (λz=>nomatch z) f
 |ro g=>obtain⟨a,m,rfl,t,j⟩:=pd;cases k;obtain⟨i,_,p,_⟩:=I.list t.sq;obtain⟨o,n,b,c,_⟩:=p;exact d4 ny I.kIn ⟨o,b,c⟩ e (λz=>nomatch z) f
 |dct E O=>obtain⟨a,C,rfl,_,A,_⟩:=pd;exact gL I k (.dK A) e f
theorem kit_tuple(K:FG)(v:P):PySem.W.kitOne K (.type (yu v)) (.type "tuple")=some (gU "tuple" v):=by cases v<;>rfl
theorem B3(K:FG)(v:P):PySem.W.kitOne K (.type (yu v)) (.type "str")=some (gU "str" v):=by cases v<;>rfl
noncomputable def jT:List P->Option P
 | [.int i]=>some (.int i)
 | [.bl b]=>some (.int (if b then 1 else 0))
 |_=>none
theorem xD{K:FG}{F:Aa}{H:Hp}{d:P}{s:List V}(r:cC K F H [d] s):∃x,s=[x]/\RP K F H d x:=by obtain⟨x,h,rfl,p,a⟩:=r;cases (show h=[] from a);exact⟨x,rfl,p⟩
theorem Co:dU X (.type "int") (rC X.K jT):=by
 intro B s N H n u Q I r h;obtain⟨F,e,d,f,a,q,k⟩:=h;unfold jT at q;split at q
 .cases q;obtain⟨x,rfl,p⟩:=xD a;exact qq B s N H _ u Q I r (.inl ⟨_,by rw[show x=_ from p],k _ F H .refl rfl⟩)
 .cases q;obtain⟨x,rfl,p⟩:=xD a;exact qq B s N H _ u Q I r (.inr ⟨_,by rw[show x=_ from p],k _ F H .refl rfl⟩)
 .cases q
noncomputable def mu:EE:=λ_ S=>some (.ref S.length,S++[.dct [] []])
theorem yF:PE X (.Dict [] [] J) (tE X.K mu):=zx.imp' λN H Q z=>by obtain⟨F,m,L,S,d,x,r,l,q,k⟩:=z;cases q;intro p h;refine k (.ref p) F (m++[p]) _ (fw h) (r.own h ⟨[],aE,rfl,rfl⟩) ⟨p,rfl,?_⟩;rw[<- r.len,fK (Nat.le_refl _)];simp
noncomputable def oN(k:bz)(v:D):List bz->List D->List bz×List D
 |h::s,w::x=>if h=k then (h::s,v::x) else (h::(oN k v s x).1,w::(oN k v s x).2)
 |_,_=>([k],[v])
noncomputable def jE(d:D)(S:aD):Option (Nat×List bz×List D):=match d with
 | .ref i=>match S[i]? with
  |some (.dct k O)=>some (i,k,O)
  |_=>none
 |_=>none
theorem rJ(h:jE r S=some (i,v,O)):r=.ref i/\S[i]? = some (.dct v O):=by
 unfold jE at h;split at h
 .split at h
  .rename_i e;cases h;exact⟨rfl,e⟩
  .cases h
 .cases h
def nO(o:EE)(k v:EV):ES:=λL S=>aG (v L S) λy x=>aG (o L x) λd a=>aG (k L a) λz h=>match jE d h,cj z with
 |some (i,s,O),some e=>if (s.Nodup/\few s=true) then some (.nx,L,h.set i (.dct (oN e (.p y) s O).1 (oN e (.p y) s O).2)) else none
 |_,_=>none
theorem pS{K:FG}{F:Aa}{H:Hp}{m:List Addr}{k:bz}{y:D}{u:V}(t:RD K F H m y u):∀{v:List (bz×V)}{s:List D},(v.map (·.1)).Nodup->dt K F H m s (v.map (·.2)) ->
  (putK v k u).map (·.1)=(oN k y (v.map (·.1)) s).1/\dt K F H m (oN k y (v.map (·.1)) s).2 ((putK v k u).map (·.2))
 | [],s,_,r=>by have:s=[]:=lB r.length;subst this;exact⟨rfl,u,[],rfl,t,rfl⟩
 |(h,w)::v,[],_,r=>by have:=r.length;simp at this
 |(h,w)::v,d::s,i,r=>by
  obtain⟨x,G,e,E,j⟩:=r;rw[List.map_cons]at e i;injection e with o S;subst o;subst S;obtain⟨p,g⟩:=List.nodup_cons.mp i;simp only[List.map_cons,oN];by_cases n:h=k
  .subst n;rw[if_pos rfl];have f:putK ((h,w)::v) h u=(h,u)::v:=by
    unfold putK;rw[if_pos (by simp)];rw[List.map_cons,if_pos rfl];congr 1;have:∀l:List (bz×V),h ∉ l.map (·.1)->l.map (λa=>if a.1=h then (a.1,u) else a)=l:=by
     intro l;induction l with
     |nil=>intro _;rfl
     |cons q l C=>
      intro b;rw[List.map_cons]at b;have P:¬q.1=h:=λz=>b (by rw[<- z];exact List.mem_cons_self)
      rw[List.map_cons,if_neg P,C λz=>b (a6 _ z)]
    exact this v p
   rw[f];exact⟨rfl,u,_,rfl,t,j⟩
  .rw [if_neg n];obtain⟨A,B⟩:=pS t g j;have f:putK ((h,w)::v) k u=(h,w)::putK v k u:=by
    unfold putK;rw[ig,cn (show ¬(h,w).1=k from n),Bool.false_or];by_cases c:(v.any λa=>decide (a.1=k))=true
    .rw [if_pos c,if_pos c,List.map_cons,if_neg (show ¬(h,w).1=k from n)]
    .rw [if_neg c,if_neg c];rfl
   rw[f,List.map_cons,List.map_cons,A];exact⟨rfl,w,_,rfl,E,B⟩
theorem JR{o i g:Expr}{T:EE}{k Q:EV}{G:Pos}(hu:X.A.units+1 < cLine)(ho:PE X o (tE X.K T))(hi:PE X i (tV X.K k))(hv:PE X g (tV X.K Q))(hs:swapsWith g (some (.Subscript o i G)) J.line X.env=pure false:=by rfl) :
  PS X (.Assign [.Subscript o i G] g J) (jn X.K (nO T k Q)):=(wA hu ho hi hv hs).imp' λD N H hz=>by
 obtain⟨F,m,L,S,fl,L',S',r,l,q,h⟩:=hz;obtain⟨y,E,e1,q⟩:=ai q;obtain⟨d,I,e2,q⟩:=ai q;obtain⟨z,M,e3,q⟩:=ai q;refine⟨F,m,L,S,y,E,r,l,e1,λv C W H1 c r1 p1=>?_⟩;refine⟨C,W,L,E,d,I,r1,l.mono c,e2,λx F2 m2 H2 p r2 p2=>?_⟩;refine⟨F2,m2,L,I,z,M,r2,(l.mono c).mono p,e3,λw n b f u B p3=>?_⟩;cases P:jE d M with
 |none=>rw[P]at q;cases q
 |some t=>
  obtain⟨j,ks,O⟩:=t;rw[P]at q;cases K:cj z with
  |none=>rw[K]at q;cases q
  |some e=>
   rw[K]at q;dsimp only at q;split at q
   .rename_i V;cases q;obtain⟨rfl,es⟩:=rJ P;obtain⟨a,rfl,A⟩:=RD.mono u p2;obtain⟨s,U,hk,rs⟩:=B.obj j a _ A es;subst hk;have pv:RD X.K n f b (.p y) v:=RD.mono u (RD.mono p (show RD X.K C H1 W (.p y) v from p1));obtain⟨h1,h2⟩:=pS (k:=e) pv V.1 rs;cases (gS K p3);have Y:∀Z,f a≠some (.tup Z):=λZ z=>by rw[U]at z;cases z
    have st:Stp n b f n b (bW f a (.dK (putK s e v))):=fR B A es trivial Y;have hl:s.length < sizeLine:=by have R:(s.map (·.1)).length≤1000000:=aS V.2;rw[a7]at R;exact ly R (by decide)
    refine⟨a,_,rfl,uL.k U hl,?_⟩;exact h N n b _ (c.trans (p.trans (u.trans st))) (B.set A es trivial Y ⟨_,aE,h1,dt.mono st h2⟩) (((l.mono c).mono p).mono (u.trans st))
   .cases q
end
section
variable{X:Cx}{a b c e:Expr}{es:Ab}{C U z:EV}{fs:gC}{J p:Pos}
noncomputable def gW:List P->Option (List Int)
 | []=>some []
 | .int i::r=>(gW r).map (i::·)
 |_::_=>none
def vT:P->P->Option P
 | .dct s O,.dct k v=>if s=k/\s.Nodup/\(gW O).isSome=true/\gW O=gW v then some (.bl true) else none
 |x,y=>Lh x y
theorem mE{k x:bz}{v:Value}{r:List (bz×Value)}(h:¬x=k):valueAt ((x,v)::r) k=valueAt r k:=by simp[valueAt,iL,h]
theorem mF{k:bz}{v:Value}{r:List (bz×Value)}:valueAt ((k,v)::r) k=some v:=by simp[valueAt,iL]
theorem tU{K:FG}{F:Aa}{H:Hp}{A:Around}{s:Shared}:∀{n h:List (bz×V)}{C w:List (bz×Value)}{g a:List P}{B:List Int},(n.map (·.1)).Nodup->n.map (·.1)=h.map (·.1)->KV n C->KV h w ->
  cC K F H g (n.map (·.2))->cC K F H a (h.map (·.2))->gW g=some B->gW a=some B->∀{p:List (bz×Value)},(∀k v,valueAt w k=some v->k ∈ h.map (·.1)->valueAt p k=some v)->PySem.W.KeqHits A s p C true
 | [],[],C,w,g,a,B,R,e,Q,o,Y,Z,m,r,p,L=>by cases Q;exact .nil
 | [],_::_,_,_,_,_,_,_,e,_,_,_,_,_,_,_,_=>by simp at e
 |_::_,[],_,_,_,_,_,_,e,_,_,_,_,_,_,_,_=>by simp at e
 |(k,v)::n,(k',v')::h,C,w,g,a,B,R,e,Q,o,Y,Z,m,r,p,L=>by
  cases Q with
  | @cons _ q _ qs h1 t1=>
   cases o with
   | @cons _ q' _ qs' h2 t2=>
    obtain⟨kq,u⟩:=q;obtain⟨kq',u'⟩:=q';obtain⟨e1,rv⟩:=h1;obtain⟨e2,S⟩:=h2;dsimp only at e1 e2 rv S;subst e1;subst e2;rw[List.map_cons,List.map_cons]at e;injection e with ek er;dsimp only at ek;subst ek;rw[List.map_cons]at R;obtain⟨T,U⟩:=List.nodup_cons.mp R;cases g with
    |nil=>have:=cC.length Y;simp at this
    |cons d dr=>
     cases a with
     |nil=>have:=cC.length Z;simp at this
     |cons d' D=>
      obtain⟨x,xr,ex,p1,q1⟩:=Y;obtain⟨x',xr',j,W,X⟩:=Z;rw[List.map_cons]at ex j;injection ex with I J;injection j with l y;subst I J l y;cases d with
      |int i=>
       cases d' with
       |int f=>
        simp only[gW]at m r;cases E:gW dr with
        |none=>rw[E]at m;cases m
        |some js=>
         cases c:gW D with
         |none=>rw[c]at r;cases r
         |some O=>
          rw[E]at m;rw[c]at r;cases m;have N:f::O=i::js:=Option.some.inj r;injection N with z1 z2;subst z1;subst z2;cases (show v=.int f from p1);cases (show v'=.int f from W);obtain⟨t,rfl⟩:=rv;obtain⟨t',rfl⟩:=S;have hy:valueAt p k=some (.int f t'):=L k _ mF (by simp);have G:SeqAt.EqAt A s (.int f t) (.int f t') true:=by have:=SeqAt.EqAt.int_int (A:=A) (s:=s) f t f t';simpa using this
          have bO:=tU (A:=A) (s:=s) U er t1 t2 q1 X E c (p:=p) λo v2 hv M=>by
           refine L o v2 ?_ (a6 _ M);have:¬k=o:=λz=>by subst z;rw[<- er]at M;exact T M
           rw[mE this];exact hv
          have:=PySem.W.KeqHits.hit (e:=true) (b:=true) hy G bO;exact this
       |_=>simp[gW]at r
      |_=>simp[gW]at m
theorem Hw(hu:X.A.units+1 < cLine):mV X (compareOp .Eq) vT:=by
 intro B s N H x y v u Q I S K h;obtain⟨F,n,f,d,G,l,z,q,k⟩:=h;have o:Lh n f=some d->wpAny (model X.prog X.w) X.A (compareOp .Eq v u) (EP X B N Q) X.xe s:=λq=>KS B s N H x y v u Q I S K ⟨F,n,f,d,G,l,z,q,k⟩
 cases n with
 |dct ks O=>
  cases f with
  |dct W vs'=>
   simp only[vT]at q;split at q
   .rename_i M;cases q;obtain⟨g,nd,V,R⟩:=M;obtain⟨a,Y,rfl,C,c,E,ra⟩:=l;obtain⟨b,j,rfl,U,m,p,rb⟩:=z;cases S;cases K;obtain⟨za,J,ws,r,P⟩:=w1 I.hok c;obtain⟨zb,L,w,e,D⟩:=w1 I.hok m;obtain⟨is,i⟩:=Option.isSome_iff_exists.mp V;subst E;have t:=tU (A:=X.A.in1) (s:=s) nd (by rw[p];exact g) r e ra rb i (by rw[<- R];exact i) (p:=w) λ_ _ h _=>h
    refine PySem.W.keq_eq J L P D (by lia) (λ_=>t) ?_;have T:ws.length=w.length:=by have l1:=r.length;have l2:=e.length;have Z:=congrArg List.length g;rw[<- p,a7,a7]at Z;lia
    rw[T];simp only[beq_self_eq_true,Bool.and_self];exact⟨.bl true,H,I,rfl,k _ F H .refl rfl⟩
   .cases q
  |_=>exact o q
 |_=>exact o q
def iH(a:EV):gC:=λL S=>aG (a L S) λv h=>match v with
 | .lst x=>some (x,h)
 | .ro x=>some (x,h)
 |_=>none
theorem iS{A iter:Expr}(h:PE X iter (tV X.K C)):PI X A iter (tI X.K (iH C)):=by
 intro B s N H R I ⟨F,m,L,S,O,G,r,l,q,k⟩;obtain⟨v,y,Q,q⟩:=ai q;refine cV (h B s N H (λx n=>∃f c,Stp F m H f c n/\Rel X.K f n c y/\RP X.K f n v x) I ⟨F,m,L,S,v,y,r,l,Q,λx f c n t z g=>⟨f,c,t,z,g⟩⟩) λu t P=>?_
 obtain⟨x,n,w,rx,f,c,st,z,g⟩:=P;have mk:∀{J:It},FW X.K J O f c n->y=G->R J n:=λW e=>by subst e;exact k _ f c n st z W
 have i:∀{a:Addr}{j:List V},x=.ref a->ie X.K n a j->R (JN X.K a) n->wpAny (model X.prog X.w) X.A (pyIter u) (JK X B N A R) X.xe t:=λ{a j} e U q=>by
  subst e;cases rx;obtain⟨Y,rv,p,P⟩:=w.list U;refine wpAny_pyIter_list p.isList ?_;refine⟨t.heap.objs.size,[t.heap.objs.size],_,_,n,rfl,w.kept (t':=t.toks) λb o e=>Heap.get?_push_of_some _ e,xt a _,⟨_,Heap.get?_push_size _ rfl,rfl,rfl⟩,λb T=>?_,q⟩;have e:b=t.heap.objs.size:=by simpa using T
  subst e;exact w.fpOk (Nat.le_refl _) (w.hok.fresh (Nat.le_refl _))
 cases v with
 |lst M=>cases q;obtain⟨a,j,rfl,d,K⟩:=g;exact i rfl d.sq (mk (zX (λD Z E s=>(d.kp s.kp).sq) K) rfl)
 |ro M=>cases q;obtain⟨a,j,rfl,d,K⟩:=g;exact i rfl d.sq (mk (zX (λD Z E s=>(d.kp s.kp).sq) K) rfl)
 |_=>cases q
end
section
variable{X:Cx}{J p:Pos}
noncomputable abbrev DE:=List (Str×EV)
end
mutual
noncomputable def pd:P->PyData
 | .non=>.none
 | .bl b=>.bool b
 | .int i=>.int i
 | .str x=>.str x
 | .tup xs=>.tuple (nV xs)
 | .lst xs=>.list (nV xs)
 | .ro xs=>.list (nV xs)
 | .dct _ _=>.none
noncomputable def nV:List P->List PyData
 | []=>[]
 |x::r=>pd x::nV r
end
noncomputable def bC:Nat->P->Bool
 |_,.non=>true
 |_,.bl _=>true
 |_,.int _=>true
 |_,.str x=>PyData.strOk x
 |n+1,.tup s=>s.all (bC n)
 |n+1,.lst s=>s.all (bC n)
 |n+1,.ro s=>s.all (bC n)
 |_,_=>false
variable{n:Nat}
theorem ng:∀{s:List P},(∀d ∈ s,(pd d).canLay0=true/\(pd d).depth≤n)->PyData.canLayAll0 (nV s)=true/\PyData.depthAll (nV s)≤n
 | [],_=>⟨rfl,Nat.zero_le _⟩
 |d::r,h=>by obtain⟨⟨p,a⟩,q⟩:=List.forall_mem_cons.mp h;obtain⟨x,e⟩:=ng q;exact⟨by simp only[nV,PyData.canLayAll0,p,x,Bool.and_self],by simp only[nV,PyData.depthAll];lia⟩
theorem hG:∀(n:Nat)(p:P),bC n p=true->(pd p).canLay0=true/\(pd p).depth≤n
 |_,.non,_=>⟨rfl,Nat.zero_le _⟩
 |_,.bl _,_=>⟨rfl,Nat.zero_le _⟩
 |_,.int _,_=>⟨rfl,Nat.zero_le _⟩
 |n,.str x,h=>⟨by cases n<;>exact h,Nat.zero_le _⟩
 |n,.dct _ _,h=>by cases n<;>cases h
 |0,.tup _,h=>by cases h
 |0,.lst _,h=>by cases h
 |0,.ro _,h=>by cases h
 |n+1,.tup s,h=>by obtain⟨a,b⟩:=ng λd hd=>hG n d (bc.mp h d hd);exact⟨a,by simp only[pd,PyData.depth];lia⟩
 |n+1,.lst s,h=>by obtain⟨a,b⟩:=ng λd hd=>hG n d (bc.mp h d hd);exact⟨a,by simp only[pd,PyData.depth];lia⟩
 |n+1,.ro s,h=>by obtain⟨a,b⟩:=ng λd hd=>hG n d (bc.mp h d hd);exact⟨a,by simp only[pd,PyData.depth];lia⟩
theorem iY(h:bC 20 p=true):SeqAt.shaped (pd p)=true:=by obtain⟨x,a⟩:=hG 20 p h;unfold SeqAt.shaped;rw[x,Bool.true_and];exact ju (by lia)
section
variable{X:Cx}{B:PN}{N:L2.St}{H:Hp}{s:Shared}{F:Aa}
theorem g9(o:∀{p:P}{v:V}{u:Value},RP X.K F H p v->RelV v u->bC n p=true->∃k,Reads s.heap u (pd p) k) :
  ∀{f:List P}{a:List V}{b:LV},cC X.K F H f a->aM a b->(∀d ∈ f,bC n d=true)->∃k,ReadsAll s.heap b (nV f) k
 | [],a,b,r,v,_=>by cases (show a=[] from r);cases v;exact⟨_,.nil⟩
 |d::f,a,b,r,v,h=>by
  obtain⟨x,i,rfl,p,r⟩:=r;cases v with
  |cons w t=>obtain⟨k,q⟩:=o p w (h d (.head _));obtain⟨g,m⟩:=g9 o r t λe c=>h e (.tail _ c);exact⟨_,.cons q m⟩
theorem iw(I:Inv X B N H s):∀(n:Nat){p:P}{v:V}{u:Value},RP X.K F H p v->RelV v u->bC n p=true->∃w,Reads s.heap u (pd p) w:=by
 intro n;induction n with
 |zero=>
  intro p v u r k h;cases p with
  |non=>cases (show v=.non from r);cases k;exact⟨_,.none⟩
  |bl b=>cases (show v=.bl b from r);cases k;exact⟨_,.bool b⟩
  |int i=>cases (show v=.int i from r);obtain⟨t,rfl⟩:=k;exact⟨_,.int i t⟩
  |str x=>cases (show v=.str x from r);obtain⟨t,rfl⟩:=k;exact⟨_,.str x t⟩
  |_=>simp[bC]at h
 |succ n y=>
  intro p v u r k h;cases p with
  |non=>cases (show v=.non from r);cases k;exact⟨_,.none⟩
  |bl b=>cases (show v=.bl b from r);cases k;exact⟨_,.bool b⟩
  |int i=>cases (show v=.int i from r);obtain⟨t,rfl⟩:=k;exact⟨_,.int i t⟩
  |str x=>cases (show v=.str x from r);obtain⟨t,rfl⟩:=k;exact⟨_,.str x t⟩
  |dct A O=>simp[bC]at h
  |tup z=>obtain⟨a,K,rfl,l,j⟩:=r;cases k;obtain⟨g,f,⟨o,e,c,m,d⟩,S⟩:=I.tuple l.sq;obtain⟨w,q⟩:=g9 y j f (by simpa[bC] using h);rw[pd];exact⟨w,reads_tuple_at e c d (by simpa using q)⟩
  |lst z=>obtain⟨a,K,rfl,l,j⟩:=r;cases k;obtain⟨g,f,⟨o,m,e,c,_,d⟩,S⟩:=I.list l.sq;obtain⟨w,q⟩:=g9 y j f (by simpa[bC] using h);rw[pd];exact⟨_,reads_list_at e c d (by simpa using q)⟩
  |ro z=>obtain⟨a,K,rfl,l,j⟩:=r;cases k;obtain⟨g,f,⟨o,m,e,c,_,d⟩,S⟩:=I.list l.sq;obtain⟨w,q⟩:=g9 y j f (by simpa[bC] using h);rw[pd];exact⟨_,reads_list_at e c d (by simpa using q)⟩
end
noncomputable def o6(f:D->Option P):List D->Option (List P)
 | []=>some []
 |d::r=>(f d).bind λv=>(o6 f r).map λO=>v::O
def gj(S:aD):Nat->D->Option P
 |_,.p v=>some v
 |0,.ref _=>none
 |n+1,.ref i=>match S[i]? with
  |some (.lst d)=>(o6 (gj S n) d).map .lst
  |some (.fz v)=>some v
  |_=>none
@[simp] theorem vf(S:aD)(n:Nat)(v:P):gj S n (.p v)=some v:=by cases n<;>rfl
section
variable{X:Cx}{B:PN}{N:L2.St}{H:Hp}{s:Shared}{F:Aa}{m:List Addr}{S:aD}
theorem n0(o:∀{d:D}{v:V}{u:Value}{p:P},RD X.K F H m d v->RelV v u->gj S n d=some p->bC l p=true->∃b,Reads s.heap u (pd p) b) :
  ∀{k:List D}{f:List V}{c:LV}{ps:List P},dt X.K F H m k f->aM f c->o6 (gj S n) k=some ps->(∀d ∈ ps,bC l d=true)->∃b,ReadsAll s.heap c (nV ps) b
 | [],f,c,ps,r,v,q,_=>by cases (show f=[] from r);cases v;cases q;exact⟨_,.nil⟩
 |d::k,f,c,ps,r,v,q,h=>by
  obtain⟨x,B,rfl,p,r⟩:=r;obtain⟨y,i,q⟩:∃a,gj S n d=some a/\(o6 (gj S n) k).map (λO=>a::O)=some ps:=by
   cases e:gj S n d with
   |none=>simp[o6,e]at q
   |some a=>exact⟨a,rfl,by simpa[o6,e] using q⟩
  obtain⟨C,j,rfl⟩:∃a,o6 (gj S n) k=some a/\ps=y::a:=by
   cases e:o6 (gj S n) k with
   |none=>rw[e]at q;cases q
   |some a=>rw[e]at q;cases q;exact⟨a,rfl,rfl⟩
  cases v with
  |cons K z=>obtain⟨b,g⟩:=o p K i (h y (.head _));obtain⟨A,t⟩:=n0 o r z j λe w=>h e (.tail _ w);exact⟨_,.cons g t⟩
theorem iV(I:Inv X B N H s)(y:Rel X.K F H m S):∀(n k:Nat){d:D}{v:V}{u:Value}{p:P},RD X.K F H m d v->RelV v u->gj S n d=some p->bC k p=true->∃b,Reads s.heap u (pd p) b:=by
 intro n;induction n with
 |zero=>
  intro k d v u p r x q h;cases d with
  |p w=>rw[vf]at q;cases q;exact iw I k r x h
  |ref i=>cases q
 |succ n C=>
  intro k d v u p r x q h;cases d with
  |p w=>rw[vf]at q;cases q;exact iw I k r x h
  |ref i=>
   obtain⟨a,rfl,g⟩:=r;have A:i < S.length:=by rw[<- y.len];exact(List.getElem?_eq_some_iff.mp g).1
   obtain⟨o,j⟩:∃o,S[i]? = some o:=⟨S[i],by simp[A]⟩;have l:=y.obj i a o g j;simp only[gj,j]at q;cases o with
   |fz w=>cases q;exact iw I k l x h
   |dct L t=>cases q
   |ins _ _ _=>cases q
   |exc _=>cases q
   |dtt _ _=>cases q
   |lst t=>
    dsimp only at q;cases e:o6 (gj S n) t with
    |none=>rw[e]at q;cases q
    |some O=>
     rw[e]at q;cases q;cases k with
     |zero=>simp[bC]at h
     |succ k=>obtain⟨Q,K,G⟩:=l;cases x;obtain⟨E,f,⟨o,M,z,c,_,d⟩,J⟩:=I.list (ie.of K);obtain⟨b,q⟩:=n0 (l:=k) (λr x q h=>C k r x q h) G f e (by simpa[bC] using h);rw[pd];exact⟨_,reads_list_at z c d (by simpa using q)⟩
theorem kR(l:Rel X.K F H m S)(r:RD X.K F H m u v)(q:gj S n u=some p)(k:∀c,p≠.lst c):RP X.K F H p v:=by
 cases u with
 |p w=>rw[vf]at q;cases q;exact r
 |ref i=>
  cases n with
  |zero=>cases q
  |succ n=>
   obtain⟨a,rfl,h⟩:=r;have s:i < S.length:=by rw[<- l.len];exact(List.getElem?_eq_some_iff.mp h).1
   obtain⟨o,x⟩:∃o,S[i]? = some o:=⟨S[i],by simp[s]⟩;have b:=l.obj i a o h x;simp only[gj,x]at q;cases o with
   |fz w=>cases q;exact b
   |dct t d=>cases q
   |ins _ _ _=>cases q
   |exc _=>cases q
   |dtt _ _=>cases q
   |lst d=>
    dsimp only at q;cases e:o6 (gj S n) d with
    |none=>rw[e]at q;cases q
    |some f=>rw[e]at q;cases q;exact absurd rfl (k f)
end
inductive rEI(K:FG)(g:D->D->aD->Option P)(x:V)(y:V)(H:Hp)(Q:VK):Prop
 |mk (F:Aa) (m:List Addr) (S:aD) (d:D) (e:D) (v:P) (h0_:Rel K F H m S) (h1_:RD K F H m d x) (h2_:RD K F H m e y) (h3_:g d e S=some v) (h4_:∀u F' H',Grow F H F' H'->RP K F' H' v u->Q u H'):rEI K g x y H Q
noncomputable def rE(K:FG)(g:D->D->aD->Option P):R2:=λx y H Q=>rEI K g x y H Q
def aC(g:D->D->aD->Option P)(a b:EE):EV:=λL S=>aG (a L S) λx e=>aG (b L e) λy h=>(g x y h).map λv=>(v,h)
section
variable{X:Cx}{a b:Expr}{C U:EE}{J:Pos}
theorem wt(h:tV X.K (aC a0 C U) N H a1):DJ (rE X.K a0) (tE X.K C) (tE X.K U) N H a1:=by
 obtain⟨F,m,L,S,d,o,r,l,q,k⟩:=h;obtain⟨x,a,K,q⟩:=ai q;obtain⟨y,s,P,q⟩:=ai q;refine⟨F,m,L,S,x,a,r,l,K,λv t A I b G B=>?_⟩;refine⟨t,A,L,a,y,s,G,l.mono b,P,λu p n J c f D=>?_⟩;cases e:a0 x y s with
 |none=>rw[e]at q;cases q
 |some z=>rw[e]at q;cases q;exact⟨p,n,o,x,y,_,f,RD.mono c B,D,e,λw i j g E=>k w i n j (b.trans (c.trans g.stp)) (f.grow g) E⟩
theorem Gn(o:iI X (compareOp v) (rE X.K r))(x:PE X a (tE X.K C))(e:PE X b (tE X.K U))(m:behindInMarks v b=false):PE X (.Compare a [v] [b] J) (tV X.K (aC r C U)):=
 (wE o x e m).imp' λ_ _ _ h=>wt h
theorem Gb(o:iI X (compareOp op) (rE X.K u))(c:PE X a (tE X.K C))(t:PE X b (tE X.K U))(w:behindInMarks op b=false):PT X (.Compare a [op] [b] J) (tQ X.K (bV (aC u C U))):=
 (wz o c t w).imp' λN H Q h=>by
  refine wt ?_;obtain⟨F,m,L,S,d,j,r,l,q,k⟩:=h;obtain⟨x,y,f,q⟩:=ai q;cases x with
  |bl b=>cases q;exact⟨F,m,L,S,_,_,r,l,f,λv e g n s i p=>⟨_,p,k e g n s i⟩⟩
  |_=>cases q
end
def AV(x y:P):Option Bool:=match vT x y with
 |some (.bl b)=>some b
 |_=>if (bC 20 x && bC 20 y)=true then some (PyData.eqv (pd x) (pd y)) else none
def eC(d e:D)(S:aD):Option P:=(gj S 9 d).bind λx=>(gj S 9 e).bind λy=>(AV x y).map .bl
def xK(x y:P):Option Bool:=match Fc x y with
 |some (.bl b)=>some b
 |_=>if (bC 20 x && bC 20 y)=true then some (!PyData.eqv (pd x) (pd y)) else none
def pa(d e:D)(S:aD):Option P:=(gj S 9 d).bind λx=>(gj S 9 e).bind λy=>(xK x y).map .bl
noncomputable def my(c:D)(S:aD):Option (List bz):=match c with
 | .p (.dct k _)=>some k
 | .ref i=>match S[i]? with
  |some (.dct k _)=>some k
  |some (.fz (.dct k _))=>some k
  |_=>none
 |_=>none
noncomputable def x2(k:bz)(s:List bz):Bool:=s.any λh=>decide (h=k)
def FD(d c:D)(S:aD):Option Bool:=match my c S with
 |some s=>(gj S 9 d).bind λx=>(cj x).map λk=>x2 k s
 |none=>none
def C0(d c:D)(S:aD):Option P:=(FD d c S).map .bl
noncomputable def de:D->Bool
 | .p .non=>true
 |_=>false
def ni(d e:D)(_:aD):Option P:=match e with
 | .p .non=>some (.bl (de d))
 |_=>none
def dE(d e:D)(_:aD):Option P:=match e with
 | .p .non=>some (.bl (!de d))
 |_=>none
theorem vS(h:vT x r=some b):(∀s,x≠.lst s)/\∀s,r≠.lst s:=by
 refine⟨λs e=>?_,λs e=>?_⟩
 .subst e;cases r<;>cases h
 .subst e;cases x<;>cases h
section
variable{X:Cx}
theorem Hv(o:X.A.units+64 < cLine):iI X (compareOp .Eq) (rE X.K eC):=by
 intro B s N H x y v u Q I j z h;obtain⟨F,m,S,d,e,r,l,g,i,q,k⟩:=h;unfold eC at q;cases t:gj S 9 d with
 |none=>rw[t]at q;cases q
 |some a=>
  rw[t]at q;cases p:gj S 9 e with
  |none=>rw[p]at q;cases q
  |some b=>
   rw[p]at q;simp only[qP]at q;cases n:AV a b with
   |none=>rw[n]at q;cases q
   |some c=>
    rw[n]at q;cases q;unfold AV at n;split at n
    .rename_i G w;cases n;obtain⟨K,P⟩:=vS w;exact Hw (by lia) B s N H x y v u Q I j z ⟨F,a,b,.bl c,l.ft,kR l g t K,kR l i p P,w,k⟩
    .split at n
     .rename_i f;rw[Bool.and_eq_true]at f;cases n;obtain⟨D,A⟩:=iV I l 9 20 g j t f.1;obtain⟨E,C⟩:=iV I l 9 20 i z p f.2;exact eq_dataH A C (iY f.1) (iY f.2) o ⟨.bl _,H,I,rfl,k _ F H .refl rfl⟩
     .cases n
theorem yf(h:Fc x r=some b):(∀s,x≠.lst s)/\∀s,r≠.lst s:=by
 refine⟨λs e=>?_,λs e=>?_⟩
 .subst e;cases r<;>cases h
 .subst e;cases x<;>cases h
theorem Ho(o:X.A.units+64 < cLine):iI X (compareOp .NotEq) (rE X.K pa):=by
 intro B s N H x y v u Q I j z h;obtain⟨F,m,S,d,e,r,l,g,i,q,k⟩:=h;unfold pa at q;cases t:gj S 9 d with
 |none=>rw[t]at q;cases q
 |some a=>
  rw[t]at q;cases p:gj S 9 e with
  |none=>rw[p]at q;cases q
  |some b=>
   rw[p]at q;simp only[qP]at q;cases n:xK a b with
   |none=>rw[n]at q;cases q
   |some c=>
    rw[n]at q;cases q;unfold xK at n;split at n
    .rename_i G w;cases n;obtain⟨K,P⟩:=yf w;exact KN B s N H x y v u Q I j z ⟨F,a,b,.bl c,l.ft,kR l g t K,kR l i p P,w,k⟩
    .split at n
     .rename_i f;rw[Bool.and_eq_true]at f;cases n;obtain⟨D,A⟩:=iV I l 9 20 g j t f.1;obtain⟨E,C⟩:=iV I l 9 20 i z p f.2;exact ne_dataH A C (iY f.1) (iY f.2) o ⟨.bl _,H,I,rfl,k _ F H .refl rfl⟩
     .cases n
theorem Hy(h:r.all (bC 19)=true):PyData.canLayAll0 (nV r)=true/\PyData.depthAll (nV r)≤20:=by have l:=hG 20 (.lst r) h;simp only[pd,PyData.canLay0,PyData.depth]at l;have x:=l.2;exact⟨l.1,by lia⟩
theorem xq:(fY u v).isSome=x2 v (u.map (·.1)):=by
 induction u with
 |nil=>rfl
 |cons p r i=>
  unfold x2 at i ⊢;by_cases h:p.1=v
  .rw [gO h,List.map_cons,ig,ju h];rfl
  .rw [fX h,i,List.map_cons,ig,cn h];rfl
theorem AD{K:FG}{F:Aa}{H:Hp}{m:List Addr}{S:aD}{c:D}{y:V}{n:List bz}(r:Rel K F H m S)(p:RD K F H m c y)(q:my c S=some n):∃a k,y=.ref a/\H a=some (.dK k)/\k.map (·.1)=n:=by
 unfold my at q;split at q
 .cases q;obtain⟨a,k,e,_,x,h,_⟩:=p;exact⟨a,k,e,x,h⟩
 .rename_i i;obtain⟨a,rfl,s⟩:=p;split at q
  .rename_i o;cases q;obtain⟨k,x,h,_⟩:=r.obj i a _ s o;exact⟨a,k,rfl,x,h⟩
  .rename_i o;cases q;obtain⟨b,k,e,_,x,h,_⟩:=r.obj i a _ s o;cases e;exact⟨a,k,rfl,x,h⟩
  .cases q
 .cases q
theorem Ht(C:X.A.units+64 < cLine):iI X (compareOp .In) (rE X.K C0):=by
 intro B s N H x y v u Q I P A h;obtain⟨F,m,S,d,e,r,l,o,K,q,k⟩:=h;unfold C0 FD at q;cases c:my e S with
 |some D=>
  rw[c]at q;dsimp only at q;cases f:gj S 9 d with
  |none=>rw[f]at q;cases q
  |some a=>
   rw[f]at q;simp only[qP]at q;cases n:cj a with
   |none=>rw[n]at q;cases q
   |some g=>
    rw[n]at q;cases q;obtain⟨b,i,rfl,w,p⟩:=AD l K c;have j:RP X.K F H a x:=kR l o f λG z=>by subst z;cases n
    cases A;cases gS n j;exact Ld (by lia) I (ja.k w) P λE t=>⟨.bl _,H,t,rfl,by rw[xq,p];exact k _ F H .refl rfl⟩
 |none=>rw[c]at q;cases q
theorem Hs:iI X (compareOp .Is) (rE X.K ni):=by
 intro B s N H x y v u Q I c t h;obtain⟨F,m,S,d,e,r,l,n,f,q,k⟩:=h;unfold ni at q;split at q
 .cases q;cases (show y=.non from f);refine Ed B s N H x _ v u Q I c t ⟨rfl,?_⟩;have:decide (x=.non)=de d:=by
   cases d with
   |ref i=>obtain⟨a,rfl,_⟩:=n;rfl
   |p w=>
    cases w with
    |non=>cases (show x=.non from n);rfl
    |bl b=>cases (show x=.bl b from n);rfl
    |int b=>cases (show x=.int b from n);rfl
    |str b=>cases (show x=.str b from n);rfl
    |_=>(obtain⟨a,g,rfl,_⟩:=n;rfl)
  rw[this];exact k _ F H .refl rfl
 .cases q
theorem zF:iI X (compareOp .IsNot) (rE X.K dE):=by
 intro B s N H x y v u Q I c t h;obtain⟨F,m,S,d,e,r,l,n,f,q,k⟩:=h;unfold dE at q;split at q
 .cases q;cases (show y=.non from f);refine BK B s N H x _ v u Q I c t ⟨rfl,?_⟩;have:decide (x=.non)=de d:=by
   cases d with
   |ref i=>obtain⟨a,rfl,_⟩:=n;rfl
   |p w=>
    cases w with
    |non=>cases (show x=.non from n);rfl
    |bl b=>cases (show x=.bl b from n);rfl
    |int b=>cases (show x=.int b from n);rfl
    |str b=>cases (show x=.str b from n);rfl
    |_=>(obtain⟨a,g,rfl,_⟩:=n;rfl)
  rw[this];exact k _ F H .refl rfl
 .cases q
end
noncomputable def ow:List jf->List P->Lc->Option Lc
 | [],[],L=>some L
 |g::s,v::O,L=>match g v L with
  |some h=>ow s O h
  |none=>none
 |_,_,_=>none
def aK(g:List jf):jf:=λv L=>match v with
 | .tup O=>ow g O L
 |_=>none
theorem t8:∀{s:List jf}{O:List P}{L x:Lc},ow s O L=some x->O.length=s.length
 | [],[],_,_,_=>rfl
 | [],_::_,_,_,h=>by cases h
 |_::_,[],_,_,h=>by cases h
 |g::s,v::O,L,x,h=>by
  unfold ow at h;split at h
  .rw [bt,bt,t8 h]
  .cases h
inductive gTsI(K:FG)(gs:List jf)(xs:List V)(σ:L2.St)(H:Hp)(Q:L2.St->Hp->Prop):Prop
 |mk (F:Aa) (m:List Addr) (L:Lc) (vs:List P) (L':Lc) (h0_:RL K F H m σ L) (h1_:cC K F H vs xs) (h2_:ow gs vs L=some L') (h3_:∀σ',RL K F H m σ' L'->Q σ' H):gTsI K gs xs σ H Q
noncomputable def MB(K:FG)(g:List jf):Fs:=λx N H Q=>gTsI K g x N H Q
noncomputable def EW:Expr->Bool
 | .Name _ _=>true
 |_=>false
inductive GsOk(X:Cx):Ab->List jf->Prop where
 |nil:GsOk X [] []
 |cons {e:Expr}{es:Ab}{g:jf}{gs:List jf}:EW e=true->PG X e (gT X.K g)->GsOk X es gs->GsOk X (e::es) (g::gs)
section
variable{X:Cx}{J:Pos}
theorem ko(h:EW e=true):assignEach (e::es) v=(false,assign e v)::assignEach es v:=by cases e<;>first|rfl|cases h
theorem GsOk.len(h:GsOk X es r)(e:Env):(assignEach es e).length=r.length/\(assignEach es e).findIdx? (·.1)=none:=by
 induction h with
 |nil=>exact⟨rfl,rfl⟩
 |cons n _ _ i=>rw[ko n];refine⟨by rw[bt,bt,i.1],?_⟩;simp only[List.findIdx?_cons,i.2];rfl
theorem GsOk.pgs(h:GsOk X es gs):IY X es (MB X.K gs):=by
 induction h with
 |nil=>
  intro B s N H f u Q I a ⟨F,m,L,O,e,l,r,q,k⟩;cases O with
  |nil=>cases q;cases (show f=[] from r);exact BG B s N H [] u Q I a ⟨rfl,k N l⟩
  |cons _ _=>cases q
 |cons c g _ i=>
  intro B s N H f u Q I a ⟨F,m,L,O,e,l,r,q,k⟩;cases O with
  |nil=>cases q
  |cons v O=>
   unfold ow at q;split at q
   .rename_i n b;obtain⟨x,d,rfl,p,r⟩:=r;refine zn g i (by rw[ko c];rfl) B s N H _ u Q I a ⟨x,d,rfl,F,m,L,v,n,l,p,b,λw t=>?_⟩;exact⟨F,m,n,O,e,t,r,q,k⟩
   .cases q
theorem EZ(c:X.calm=true)(h:GsOk X es r):PG X (.Tuple es n J) (gT X.K (aK r)):=
 PG.imp' (D2 c h.pgs (h.len _).1 (h.len _).2) λv N H Q z=>by
  obtain⟨F,m,L,d,x,l,p,q,k⟩:=z;cases d with
  |tup O=>obtain⟨a,f,rfl,t,e⟩:=p;have s:=t8 (show ow r O L=some x from q);exact⟨a,f,rfl,t.sq,by rw[<- e.length];exact s,F,m,L,O,x,l,e,q,k⟩
  |_=>cases q
def Cy(K:FG)(a:Addr):It:=
 ⟨λi H=>∃s x,ie K H a s/\s[i]? = some x,λi H x h=>∃p y,x=.ref p/\H p=none/\h=bW H p (.tup [.int i,y])/\∀s,ie K H a s->s[i]? = some y,λi H=>∃s,ie K H a s/\s.length≤i⟩
theorem xu{P:Program}{w:World}{K:FG}{es:Ab}{n:Nat}(a e t:Addr)(C:e≠t):Turn P w K (.Tuple es n J) (Cy K a) [e,t] e (λi h=>(∃l,IsEnum h e t i l)/\h.IsListIter t a i) where
 mem:=by simp
 obj:=λi h st b p=>by
  obtain⟨⟨l,A⟩,⟨o,ho,c,d⟩⟩:=st;have:b=e\/b=t:=by simpa using p
  rcases this with rfl|rfl
  .exact⟨_,A,λv z=>by have z':Data.fields _=Data.cell v:=z;cases z'⟩
  .exact⟨o,ho,λv z=>by rw[d]at z;cases z⟩
 keep:=λi h h' st k=>by obtain⟨⟨l,A⟩,y⟩:=st;exact⟨⟨l,k e (by simp) _ A⟩,y.at λo q=>k t (by simp) o q⟩
 item:=by
  intro X hP hw Z f i B s N H E I R st hg;subst hP hw Z;obtain⟨xs,x,T,hx⟩:=hg;obtain⟨its,rv,pl,hz⟩:=I.list T;obtain⟨u,hu,ru⟩:=rv.get hx;obtain⟨⟨l,A⟩,y⟩:=st;obtain⟨f0,f1,f2,f3,f4,f5⟩:=R e (by simp);obtain⟨M,O,g2,V,W,Y⟩:=R t (by simp);refine wpAny_pyNext_enum_item A y pl.isList (x:=u) (by simpa using hu) C λh1 ho1 G ht1 hz1 hk1=>?_
  refine⟨_,rfl,wpAny_letOwnedTupleGo_enum (s:={ s with heap:=h1,toks:=s.toks+1 }) ho1 λQ he2 F=>?_⟩;replace F:Heap.SameBut e h1 Q:=F;have D:e < s.heap.objs.size:=Heap.lt_size A;have S:∀b o,b≠e->b≠t->s.heap.get? b=some o->Q.get? b=some o:=λb o b1 b2 q=>(F.2 b b1).trans (hk1 b o b1 b2 q);have L:Q.get? s.heap.objs.size=some { cls:=.type "tuple",data:=.seq #[.int i s.toks,u] }:=(F.2 _ (cO D)).trans ht1;have j:H s.heap.objs.size=none:=I.hok.fresh (Nat.le_refl _);have U:∀{b:Addr}{o:HO},H b=some o->b≠e/\b≠t:=λ{b o} q=>⟨λz=>(by rw[z,f0]at q;cases q),λz=>(by rw[z,M]at q;cases q)⟩;have g:∀b,b ∉ [e,t]->b≠e/\b≠t:=λb p=>⟨λz=>p (by simp[z]),λz=>p (by simp[z])⟩;have I':Inv X B N (bW H s.heap.objs.size (.tup [.int i,x])) { s with heap:=Q,gens:=s.gens,drawn:=s.drawn,toks:=s.toks+1 }:=by
   refine I.step (ch:=[e,t]) (λb p=>?_) (λb o _ _ f q _=>S b o (g b f).1 (g b f).2 q) (λb o _ _ f q _=>⟨o.slots,S b o (g b f).1 (g b f).2 q⟩) (λb o _ q n=>?_) (λb o f q=>⟨o,S b o (g b f).1 (g b f).2 q⟩)
    (λb ys q=>?_) (λb o ys q=>?_) (λb ps q=>⟨#[],?_⟩) (λm hm=>?_) (λb u' q=>?_) I.bare
   .have:b=e\/b=t:=by simpa using p
    rcases this with rfl|rfl
    .exact⟨f3,f1,f4,f5⟩
    .exact⟨V,O,W,Y⟩
   .rw [ao (bM (Heap.lt_size q))];exact n
   .rw [ao (cQ q j)];exact q
   .rw [ao (cQ q j)];exact q
   .rw [ao (cQ q j),q];simp
   .obtain⟨o,es,ep,ho,r⟩:=hm;exact⟨o,es,ep,S _ o (Ne.symm f1) (Ne.symm O) ho,r⟩
   .by_cases p:b=s.heap.objs.size
    .subst p;rw[aE]at q;cases q;exact⟨by show 2≤sizeLine;decide,[.int i s.toks,u],.cons ⟨_,rfl⟩ (.cons ru .nil),⟨_,L,⟨rfl,_,rfl⟩,rfl⟩⟩
    .rw [ao p]at q;refine(I.hok b u' q).stay (λc v f z=>S c v ?_ ?_ z) (λc z=>by rw[ao (cQ z j)];exact z) λc ys z=>by rw[ao (cQ z j)];exact z
     .rcases f with rfl|f
      .exact (U q).1
      .exact (U f).1
     .rcases f with rfl|f
      .exact (U q).2
      .exact (U f).2
  refine⟨.ref s.heap.objs.size,_,I',rfl,⟨s.heap.objs.size,x,rfl,j,rfl,λys hy=>by rw[I.list_inj hy T];exact hx⟩,⟨⟨u,by simpa using he2⟩,G.at λo q=>(F.2 t (Ne.symm C)).trans q⟩,λb p=>?_⟩;have hb':b=e\/b=t:=by simpa using p
  obtain⟨oi,hoi,_⟩:=id y;rcases hb' with rfl|rfl
  .rw [ao (bM D)];exact f0
  .rw [ao (bM (Heap.lt_size hoi))];exact M
 done:=by intro X hP hw Z f i B s N H E I R st hg;subst hP hw Z;obtain⟨xs,T,hx⟩:=hg;obtain⟨its,rv,pl,hz⟩:=I.list T;obtain⟨⟨l,A⟩,y⟩:=st;obtain⟨M,O,g2,V,W,Y⟩:=R t (by simp);have hl:=rv.length;exact wpAny_pyNext_enum_end (I.ok.hd f) A y pl.isList (by simp;lia) λh' eb=>⟨rfl,I.turned (t':=s.toks) (λb o p e=>eb b o p e) M O V W Y⟩
 self:=λ_ _ _ _ _ st h=>by obtain⟨⟨l,A⟩,_⟩:=st;exact wpAny_pyIter_enum A h
noncomputable def a_(k:Int):List P->List P
 | []=>[]
 |x::r=>.tup [.int k,x]::a_ (k+1) r
theorem lQ:∀{O:List P}{k:Int}{i:Nat}{v:P},(a_ k O)[i]? = some v->∃x,O[i]? = some x/\v=.tup [.int (k+i),x]
 | [],_,_,_,h=>by simp[a_]at h
 |x::r,k,0,v,h=>⟨x,rfl,by simpa[a_] using h.symm⟩
 |x::r,k,i+1,v,h=>by obtain⟨y,a,e⟩:=lQ (O:=r) (k:=k+1) (i:=i) (by simpa[a_] using h);refine⟨y,by simpa using a,?_⟩;rw[e];congr 3;lia
theorem dM:∀(O:List P)(k:Int),(a_ k O).length=O.length
 | [],_=>rfl
 |_::r,k=>by rw[a_,bt,bt,dM r]
def o8(a:EV):gC:=λL S=>aG (a L S) λv h=>match v with
 | .lst x=>some (a_ 0 x,h)
 | .ro x=>some (a_ 0 x,h)
 |_=>none
theorem zY{K:FG}{F:Aa}{m:List Addr}{H:Hp}{a:Addr}{O:List P}{s:List V}(t:∀h k n,Stp F m H h k n->ie K n a s)(r:cC K F H O s):FW K (Cy K a) (a_ 0 O) F m H:=by
 intro h k n st;have q:=t h k n st;have l:=r.length;refine⟨λi v e=>?_,⟨s,q,by rw[dM,l];exact Nat.le_refl _⟩⟩;obtain⟨d,c,rfl⟩:=lQ e;obtain⟨x,f,p⟩:=r.get c;refine⟨⟨s,x,q,f⟩,λz u y=>?_⟩;obtain⟨g,y,rfl,b,rfl,w⟩:=y;have:y=x:=by have:=w s q;rw[f]at this;cases this;rfl
 subst this;refine⟨h,cx b,RP.newTup b ⟨_,_,rfl,?_,_,_,rfl,RP.mono st p,rfl⟩⟩;show V.int (i:Int)=V.int (0+(i:Int));rw[eD]
theorem iE{es:Ab}{n:Nat}{a:Expr}{C:EV}{p t:Pos}(hg:Gl X "enumerate")(hm:X.mg "enumerate"=none)(ha:PE X a (tV X.K C))(G:starEach [a] X.env=[(false,eval a X.env)]):PI X (.Tuple es n J) (.Call (.Name "enumerate" p) [a] [] t) (tI X.K (o8 C)):=by
 intro B s N H R I ⟨F,m,L,S,O,S',r,l,q,k⟩;obtain⟨v,A,Y,q⟩:=ai q;have Z:PA X [a] (oY X.K (aL C aN)):=C_ ha Fo (by rw[G];rfl);refine Call_ (kB I hg hm boot_enumerate (nC (cV (Z t B s N H (λc x=>∃f d,Stp F m H f d x/\Rel X.K f x d A/\cC X.K f x [v] c) I ⟨F,m,L,S,[v],A,r,l,?_,λc f d x h j K=>⟨f,d,h,j,K⟩⟩) λus h ⟨c,x,w,Q,f,d,st,j,K⟩=>?_) (by rw[G];rfl) rfl))
 .simp only[aL,aN,Y,av]
 obtain⟨x1,rfl,M⟩:=xD K;obtain⟨u,rfl,ru⟩:=vals1 Q;have D:∀{a:Addr}{c:List V},x1=.ref a->ie X.K x a c->R (Cy X.K a) x->wpAny (model X.prog X.w) X.A (call (.type "enumerate") [u]) (λv h=>wpAny (model X.prog X.w) X.A (pyIter v) (JK X B N (.Tuple es n J) R) X.xe h) X.xe h:=λ{a c} e hq q=>by
  subst e;cases ru;obtain⟨its,Q,pl,hz⟩:=w.list hq;refine call_enumerate_list pl.isList λh' E o hsz hk=>?_
  refine wpAny_pyIter_enum E ?_;have g:∀b,h.heap.objs.size≤b->x b=none:=λb y=>w.hok.fresh y;refine⟨h.heap.objs.size+1,[h.heap.objs.size+1,h.heap.objs.size],_,_,x,rfl,w.kept (t':=h.toks) hk,xu a _ _ (cO (qC _)),⟨⟨_,E⟩,o⟩,λb y=>?_,q⟩;have z:b=h.heap.objs.size+1\/b=h.heap.objs.size:=by simpa using y
  rcases z with rfl|rfl
  .exact w.fpOk (mW _) (g _ (mW _))
  .exact w.fpOk (Nat.le_refl _) (g _ (Nat.le_refl _))
 cases v with
 |lst W=>cases q;obtain⟨a,c,rfl,i,P⟩:=M;exact D rfl i.sq (k _ f d x st j (zY (λT m2 U s=>(i.kp s.kp).sq) P))
 |ro W=>cases q;obtain⟨a,c,rfl,i,P⟩:=M;exact D rfl i.sq (k _ f d x st j (zY (λT m2 U s=>(i.kp s.kp).sq) P))
 |_=>cases q
end
open PySem.AutoSeq1 (wpAny_loadPart')
section
variable{X:Cx}
abbrev fm:P->P->Option P:=vR
theorem Eg:mV X (binaryOp .Mult) fm:=Hq
noncomputable def iq:List P->Option P
 | [.lst x]=>some (.lst x)
 | [.ro x]=>some (.lst x)
 | [.tup x]=>some (.lst x)
 |_=>none
noncomputable def bu:List P->Option P
 | [.lst x]=>some (.tup x)
 | [.ro x]=>some (.tup x)
 | [.tup x]=>some (.tup x)
 |_=>none
theorem AL:dU X (.type "list") (rC X.K iq):=by
  intro B s N H m u Q I r h;obtain⟨F,b,d,c,f,q,k⟩:=h;unfold iq at q;split at q;all_goals first
    |(cases q;done)
    | (cases q
       obtain⟨x,rfl,p⟩:=xD f;obtain⟨a,y,rfl,t,n⟩:=p;first
         |exact i6 B s N H _ u Q I r ⟨a,y,rfl,.inl t.sq,λl e=>k _ _ _ (cy e) (.newLst e n)⟩
         |exact i6 B s N H _ u Q I r ⟨a,y,rfl,.inr t.sq,λl e=>k _ _ _ (cy e) (.newLst e n)⟩)
theorem ym:dU X (.type "tuple") (rC X.K bu):=by
  intro B s N H m u Q I r h;obtain⟨F,b,d,c,f,q,k⟩:=h;unfold bu at q;split at q;all_goals first
    |(cases q;done)
    | (cases q
       obtain⟨x,rfl,p⟩:=xD f;obtain⟨a,y,rfl,t,n⟩:=p;first
         |exact kg B s N H _ u Q I r ⟨a,y,rfl,.inl ⟨t.sq,λl e=>k _ F _ (cx e) (.newTup e n)⟩⟩
         |exact kg B s N H _ u Q I r ⟨a,y,rfl,.inr ⟨t.sq,k _ F H .refl ⟨a,y,rfl,t,n⟩⟩⟩)
noncomputable def mD:List P->Option P
 | [.int i]=>some (.int (if i < 0 then -i else i))
 |_=>none
theorem Cp:dU X (.builtin "abs") (rC X.K mD):=by
 intro B s N H n u Q I r h;obtain⟨F,e,d,f,a,q,k⟩:=h;unfold mD at q;split at q
 .cases q;obtain⟨x,rfl,p⟩:=xD a;exact AJ B s N H _ u Q I r ⟨_,by rw[show x=_ from p],k _ F H .refl rfl⟩
 .cases q
variable{e:Expr}{es:Ab}{fs:gC}{p J:Pos}
theorem Dm(g:Gl X "list")(m:X.mg "list"=none)(a:PA X (e::es) (oY X.K fs))(x:starEach (e::es) X.env=(false,eval e X.env)::starEach es X.env)(h:(backTo J (starEach es X.env)).any (·.1)=false) :
  PE X (.Call (.Name "list" p) (e::es) [] J) (tV X.K (ah iq fs)):=u1 AL g m uP a (by decide) (by decide) x h
theorem A0(g:Gl X "tuple")(m:X.mg "tuple"=none)(a:PA X (e::es) (oY X.K fs))(x:starEach (e::es) X.env=(false,eval e X.env)::starEach es X.env)(h:(backTo J (starEach es X.env)).any (·.1)=false) :
  PE X (.Call (.Name "tuple" p) (e::es) [] J) (tV X.K (ah bu fs)):=u1 ym g m PyProof.Rows.boot_tuple a (by decide) (by decide) x h
theorem Ge(g:Gl X "abs")(m:X.mg "abs"=none)(a:PA X (e::es) (oY X.K fs))(x:starEach (e::es) X.env=(false,eval e X.env)::starEach es X.env)(h:(backTo J (starEach es X.env)).any (·.1)=false) :
  PE X (.Call (.Name "abs" p) (e::es) [] J) (tV X.K (ah mD fs)):=Dx Cp g m PyProof.Rows.boot_abs a (by decide) (by decide) x h
def d_(r:EE)(a:EV):EE:=λL S=>aG (r L S) λd h=>match dD d h with
 |none=>none
 |some _=>aG (a L h) λx e=>match dD d e,x with
  |some (i,s),.lst y=>if iC (s.length+y.length)=true then some (.p .non,e.set i (.lst (s++y.map .p))) else none
  |_,_=>none
end
section
variable{X:Cx}{o e:Expr}{T Y:EE}{C:EV}{j t J:Pos}
theorem A5(ho:PE X o (tE X.K T))(he:PE X e (tV X.K C))(E:starEach [e] X.env=[(false,eval e X.env)])
  (n:attributeBase o "extend" X.env (eval o X.env)=eval o X.env) (f:(j.endLine == t.line)=true):PE X (.Call (.Attribute o "extend" j) [e] [] t) (tE X.K (d_ T C)):=
 (CM uW PySem.F.slot_list_extend PySem.F.type_list_extend xL ho (dR he gm (by rw[E];rfl)) n (by rw[E];rfl) f (by rw[E];rfl) rfl).imp' λN H Q hz=>by
  obtain⟨F,m,L,S,d,S',r,l,q,k⟩:=hz;obtain⟨x,B,e1,q⟩:=ai q;refine⟨F,m,L,S,x,B,r,l,e1,λv Y m1 H1 V R O=>?_⟩;cases D:dD x B with
  |none=>rw[D]at q;cases q
  |some z=>
   obtain⟨i,ds⟩:=z;rw[D]at q;dsimp only at q;obtain⟨rfl,es⟩:=kW D;obtain⟨a,rfl,hm⟩:=id O;obtain⟨xs,hH,rs⟩:=R.obj i a _ hm es;refine⟨.inl ⟨rfl,xs,ie.of hH⟩,?_⟩;obtain⟨y,J,e2,q⟩:=ai q;refine⟨Y,m1,L,B,y,J,R,l.mono V,e2,λu P G A W I p2=>?_⟩;cases h:dD (.ref i) J with
   |none=>rw[h]at q;cases q
   |some z=>
    obtain⟨i2,Z⟩:=z;rw[h]at q;obtain⟨e3,s⟩:=kW h;cases e3;cases y with
    |lst ys=>
     dsimp only at q;split at q
     .rename_i hf;cases q;obtain⟨a2,e4,c⟩:=RD.mono W O;cases e4;obtain⟨g,p,w⟩:=I.obj i a _ c s;obtain⟨b,K,rfl,tb,U⟩:=p2;have M:∀K,A a≠some (.tup K):=λK z=>by rw[p]at z;cases z
      have st:Stp P G A P G (bW A a (.lst (g++K))):=fR I c s trivial M;refine⟨a,b,g,K,rfl,rfl,p,tb.2,by rw[<- w.length,<- U.length];exact hZ hf,?_⟩;exact k .non P G _ (V.trans (W.trans st)) (I.set c s trivial M ⟨_,aE,dt.mono st (w.append (dt.ofP U))⟩) rfl
     .cases q
    |_=>cases q
noncomputable abbrev l8:=Lc->aD->Option (List D×aD)
inductive tDsI(K:FG)(f:l8)(σ:L2.St)(H:Hp)(Q:List V->Hp->Prop):Prop
 |mk (F:Aa) (m:List Addr) (L:Lc) (S:aD) (ds:List D) (S':aD) (h0_:Rel K F H m S) (h1_:RL K F H m σ L) (h2_:f L S=some (ds,S')) (h3_:∀xs F' m' H',Stp F m H F' m' H'->Rel K F' H' m' S'->dt K F' H' m' ds xs->Q xs H'):tDsI K f σ H Q
noncomputable def u_(K:FG)(f:l8):TA:=λN H Q=>tDsI K f N H Q
noncomputable def aV:l8:=λ_ S=>some ([],S)
def ae(a:EE)(r:l8):l8:=λL S=>aG (a L S) λx h=>aG (r L h) λs e=>some (x::s,e)
variable{es:Ab}{fs:l8}
theorem Ix:PA X [] (u_ X.K aV):=gm.imp' λN H Q h=>by obtain⟨F,m,L,S,d,x,r,l,q,k⟩:=h;cases q;exact k [] F m H .refl r rfl
theorem E9(w:PE X e (tE X.K Y))(u:PA X es (u_ X.K fs))(g:starEach (e::es) X.env=(false,eval e X.env)::starEach es X.env):PA X (e::es) (u_ X.K (ae Y fs)):=
 (dR w u g).imp' λN H Q z=>by obtain⟨F,m,L,S,d,c,r,l,q,k⟩:=z;obtain⟨x,h,t,q⟩:=ai q;obtain⟨A,C,p,q⟩:=ai q;cases q;refine⟨F,m,L,S,x,h,r,l,t,λv n i B s K y=>?_⟩;refine⟨n,i,L,h,A,c,K,l.mono s,p,λO f j b a P o=>?_⟩;exact k (v::O) f j b (s.trans a) P ⟨v,O,rfl,RD.mono a y,o⟩
noncomputable abbrev GF:=List D->aD->Option (D×aD)
inductive spRI(K:FG)(g:GF)(vs:List V)(H:Hp)(Q:VK):Prop
 |mk (F:Aa) (m:List Addr) (ds:List D) (S:aD) (d:D) (S':aD) (h0_:Rel K F H m S) (h1_:dt K F H m ds vs) (h2_:g ds S=some (d,S')) (h3_:∀v F' m' H',Stp F m H F' m' H'->Rel K F' H' m' S'->RD K F' H' m' d v->Q v H'):spRI K g vs H Q
noncomputable def oZ(K:FG)(g:GF):Sp:=λO H Q _=>spRI K g O H Q
def gq(g:GF)(a:l8):EE:=λL S=>aG (a L S) λd h=>g d h
theorem Dw(G:FnOk X.prog X.w X.K X.mg X.base qy u f fd ps (oZ X.K a0))(A:Room u X.A)(o:Gl X x)(P:X.mg x=some (.ref f))(K:PySem.W.keepIn X.K (.ref f)=true)(y:Binds X.K fd ps [])
  (j:PA X (e::es) (u_ X.K fs)) (h:(x == ("__debug__":Str))=false) (z:starEach (e::es) X.env=(false,eval e X.env)::starEach es X.env) (a:(backTo J (starEach es X.env)).any (·.1)=false) :
  PE X (.Call (.Name x p) (e::es) [] J) (tE X.K (gq a0 fs)):=
 (rG G A o P K y .nil pU j h z a).imp' λN H Q B=>by obtain⟨F,m,L,S,d,g,r,l,q,u⟩:=B;obtain⟨k,n,i,q⟩:=ai q;refine⟨F,m,L,S,k,n,r,l,i,λR b C t s I p=>?_⟩;show oZ X.K a0 (R++[]) t Q E0;rw[List.append_nil];exact⟨b,C,k,n,d,g,I,p,q,λv c D w O M E=>u v c D w (s.trans O) M E⟩
noncomputable def xO(n:Nat):D->Bool
 | .p _=>true
 | .ref i=>decide (i < n)
def Es(n:Nat):SO->Bool
 | .lst d=>d.all (xO n)
 | .dct _ d=>d.all (xO n)
 | .fz _=>true
 | .ins _ _ d=>d.all (xO n)
 | .exc _=>true
 | .dtt _ d=>d.all (xO n)
def trunc(n:Nat)(S:aD):aD:=if (S.take n).all (Es n)=true then S.take n else S
def cq(g:GF)(a:l8):EV:=λL S=>aG (a L S) λs h=>aG (g s h) λd x=>aG (toP 9 d x) λv e=>some (v,trunc h.length e)
end
section
variable{K:FG}{F:Aa}{H:Hp}{m:List Addr}{S:aD}
theorem RD.low(h:RD K F H m r v)(l:xO n r=true):RD K F H (m.take n) r v:=by
 cases r with
 |p w=>exact h
 |ref i=>obtain⟨a,e,x⟩:=h;exact⟨a,e,by rw[iP (aS l)];exact x⟩
theorem dt.low:∀{s:List D}{a:List V},dt K F H m s a->s.all (xO n)=true->dt K F H (m.take n) s a
 | [],_,h,_=>h
 |d::s,_,h,l=>by obtain⟨x,r,e,k,f⟩:=h;rw[eT,Bool.and_eq_true]at l;exact⟨x,r,e,k.low l.1,dt.low f l.2⟩
theorem Rel.trunc(r:Rel K F H m S)(y:n≤m.length)(h:(S.take n).all (Es n)=true):Rel K F H (m.take n) (S.take n) where
 len:=by rw[List.length_take,List.length_take,r.len]
 nd:=r.nd.sublist (List.take_sublist _ _)
 obj:=λi a o x t=>by
  have q:i < n:=by have:=(List.getElem?_eq_some_iff.mp x).1;rw[List.length_take]at this;lia
  rw[iP q]at x;have lo:=bc.mp h o (bL t);rw[iP q]at t;have p:=r.obj i a o x t;cases o with
  |lst d=>obtain⟨l,s,b⟩:=p;exact⟨l,s,b.low lo⟩
  |dct u d=>obtain⟨k,s,e,b⟩:=p;exact⟨k,s,e,b.low lo⟩
  |fz v=>exact p
  |ins c u d=>obtain⟨C,g,k,j,s,e,b⟩:=p;exact⟨C,g,k,j,s,e,b.low lo⟩
  |exc c=>exact p
  |dtt u d=>obtain⟨k,s,e,b⟩:=p;exact⟨k,s,e,b.low lo⟩
 sep:=λi a o x t w f=>by
  have q:i < n:=by have:=(List.getElem?_eq_some_iff.mp x).1;rw[List.length_take]at this;lia
  rw[iP q]at x t;exact r.sep i a o x t w f
 trk:=λa h=>r.trk a (lz h)
 ft:=r.ft
theorem Stp.trunc(s:Stp F m H v r u):Stp F m H v (r.take m.length) u:=by
 obtain⟨n,e⟩:=s.pre;have x:r.take m.length=m:=by rw[e];simp
 rw[x];exact⟨⟨[],by simp⟩,s.oth,s.frz,s.frk,s.tup,s.trk,s.nf,λ_ h=>.inl h⟩
end
section
variable{X:Cx}{e:Expr}{es:Ab}{fs:l8}{J:Pos}
theorem A2(G:FnOk X.prog X.w X.K X.mg X.base qy u f fd ps (oZ X.K a0))(Z:Room u X.A)(V:Gl X x)(Y:X.mg x=some (.ref f))(W:PySem.W.keepIn X.K (.ref f)=true)(T:Binds X.K fd ps [])
  (R:PA X (e::es) (u_ X.K fs)) (b:(x == ("__debug__":Str))=false) (U:starEach (e::es) X.env=(false,eval e X.env)::starEach es X.env) (w:(backTo J (starEach es X.env)).any (·.1)=false) :
  PE X (.Call (.Name x p) (e::es) [] J) (tV X.K (cq a0 fs)):=
 (rG G Z V Y W T .nil pU R b U w).imp' λN H Q hz=>by
  obtain⟨F,m,L,S,d,S',r,l,q,u⟩:=hz;obtain⟨z,h,I,q⟩:=ai q;obtain⟨E,D,M,q⟩:=ai q;obtain⟨v1,a,O,q⟩:=ai q;cases q;refine⟨F,m,L,S,z,h,r,l,I,λxs B g C A K p1=>?_⟩;show oZ X.K a0 (xs++[]) C Q E0;rw[List.append_nil];refine⟨B,g,z,h,E,D,K,p1,M,λv F2 i y s2 r2 p2=>?_⟩;obtain⟨j,s3,P,l3,o⟩:=nK 9 O r2 p2;have st:=s2.trans s3;have s:=K.len;by_cases c:(a.take h.length).all (Es h.length)=true
  .have t:Ev.trunc h.length a=a.take h.length:=if_pos c;rw[t]at u;have k:g.length≤i.length:=by
    obtain⟨nn,e⟩:=st.pre;rw[e,b_];lia
   have rt:=P.trunc (n:=h.length) (by rw[<- s];exact k) c;refine u v j (i.take g.length) y (A.trans st.trunc) ?_ o;rw[s];exact rt
  .have t:Ev.trunc h.length a=a:=if_neg c;rw[t]at u;exact u v j i y (A.trans st) P o
end
section
variable{X:Cx}{a b c e o i g:Expr}{C U z k Q:EV}{T Y:EE}{J G:Pos}
def oU (i:Expr):Prop:=∀(o:Expr) (J:Pos) (e:Env) (v:Value),assign (.Subscript o i J) e v=(do
 let h <- holding [v] (eval o e)
 let x <- holding [v,h] (eval i e)
 standAt J
 holding [v,h,x] (setItem h x v)
 release [v,h,x] [])
def nN(o:EE)(k v:EV):ES:=λL S=>aG (v L S) λy x=>aG (o L x) λd a=>aG (k L a) λz h=>match dD d h,z with
 |some (i,s),.int n=>match vw s.length n with
  |some j=>some (.nx,L,h.set i (.lst (s.set j (.p y))))
  |none=>none
 |_,_=>none
theorem dt.setAt{K:FG}{F:Aa}{H:Hp}{m:List Addr}{d:D}{v:V}(h:RD K F H m d v):∀{s:List D}{e:List V}(j:Nat),dt K F H m s e->dt K F H m (s.set j d) (e.set j v)
 | [],_,_,r=>by cases (show _=([]:List V) from r);exact rfl
 |_::_,_,0,r=>by obtain⟨x,a,rfl,p,r⟩:=r;exact⟨v,a,rfl,h,r⟩
 |_::_,_,j+1,r=>by obtain⟨x,a,rfl,p,r⟩:=r;exact⟨x,_,rfl,p,dt.setAt h j r⟩
theorem FZ(ho:PE X o (tE X.K T))(hi:PE X i (tV X.K k))(hv:PE X g (tV X.K Q))(hs:swapsWith g (some (.Subscript o i G)) J.line X.env=pure false)(hw:swappedStores [.Subscript o i G] g X.env=pure none)(P:oU i) :
  PS X (.Assign [.Subscript o i G] g J) (jn X.K (nN T k Q)):=(zi hv (D3 ho hi yZ (P o G X.env)) hs hw).imp' λD N H hz=>by
 obtain⟨F,m,L,S,fl,L',S',r,l,q,h⟩:=hz;obtain⟨y,I,e1,q⟩:=ai q;obtain⟨d,M,e2,q⟩:=ai q;obtain⟨z,O,e3,q⟩:=ai q;refine⟨F,m,L,S,y,I,r,l,e1,λv E U H1 b r1 p1=>?_⟩;refine⟨E,U,L,I,d,M,r1,l.mono b,e2,λx F2 m2 H2 c r2 p2=>?_⟩;refine⟨F2,m2,L,M,z,O,r2,(l.mono b).mono c,e3,λw e f s p C p3=>?_⟩;cases K:dD d O with
 |none=>rw[K]at q;cases q
 |some t=>
  obtain⟨j,ds⟩:=t;rw[K]at q;cases z with
  |int n=>
   dsimp only at q;cases u:vw ds.length n with
   |none=>rw[u]at q;cases q
   |some B=>
    rw[u]at q;cases q;obtain⟨rfl,es⟩:=kW K;obtain⟨a,rfl,A⟩:=RD.mono p p2;obtain⟨Y,R,W⟩:=C.obj j a _ A es;have pv:RD X.K e s f (.p y) v:=RD.mono p (RD.mono c (show RD X.K E H1 U (.p y) v from p1));cases (show w=.int n from p3);have V:∀Z,s a≠some (.tup Z):=λZ z=>by rw[R]at z;cases z
    have st:Stp e f s e f (bW s a (.lst (Y.set B v))):=fR C A es trivial V;refine⟨a,Y,n,B,rfl,rfl,R,by rw[<- W.length];exact u,?_⟩;exact h N e f _ (b.trans (c.trans (p.trans st))) (C.set A es trivial V ⟨_,aE,dt.mono st (dt.setAt pv B W)⟩) (((l.mono b).mono c).mono (p.trans st))
  |_=>cases q
def dI(o:EE)(k v:EV):ES:=λL S=>match nO o k v L S with
 |some r=>some r
 |none=>nN o k v L S
theorem F0(u:X.A.units+1 < cLine)(p:PE X o (tE X.K T))(t:PE X i (tV X.K k))(d:PE X g (tV X.K Q))(v:swapsWith g (some (.Subscript o i G)) J.line X.env=pure false)(hw:swappedStores [.Subscript o i G] g X.env=pure none)(b:oU i) :
  PS X (.Assign [.Subscript o i G] g J) (jn X.K (dI T k Q)):=λB s N H D I h=>by
 obtain⟨F,m,L,S,f,a,e,r,l,q,x⟩:=h;cases n:nO T k Q L S with
 |some z=>
  have c:some z=some (f,a,e):=by have:=q;unfold dI at this;rw[n]at this;exact this
  cases c;exact JR u p t d v B s N H D I ⟨F,m,L,S,f,a,e,r,l,n,x⟩
 |none=>
  have c:nN T k Q L S=some (f,a,e):=by have:=q;unfold dI at this;rw[n]at this;exact this
  exact FZ p t d v hw b B s N H D I ⟨F,m,L,S,f,a,e,r,l,c,x⟩
def lF(g n:P->P->Option P)(a b c:EV):EV:=λL S=>aG (a L S) λx e=>aG (b L e) λy h=>match g x y with
 |some (.bl true)=>aG (c L h) λz s=>(n y z).map λv=>(v,s)
 |some (.bl false)=>some (.bl false,h)
 |_=>none
theorem uA{g b:P->P->Option P}{N:L2.St}{H:Hp}{Q:VK}(h:tV X.K (lF g b C U z) N H Q):va (rP X.K g) (rP X.K b) (tV X.K C) (tV X.K U) (tV X.K z) N H Q:=by
 obtain⟨F,m,L,S,d,S',r,l,q,k⟩:=h;obtain⟨x,j,W,q⟩:=ai q;obtain⟨y,o,Y,q⟩:=ai q;refine⟨F,m,L,S,x,j,r,l,W,λv J m1 H1 E r1 p1=>?_⟩;refine⟨J,m1,L,j,y,o,r1,l.mono E,Y,λu M p H2 G A K=>?_⟩;cases f:g x y with
 |none=>rw[f]at q;cases q
 |some a=>
  rw[f]at q;cases a with
  |bl t=>
   refine⟨M,x,y,_,A.ft,RP.mono G p1,K,f,λw n i c p3=>⟨t,p3,?_⟩⟩;have tt:Stp F m H n p i:=E.trans (G.trans c.stp);have B:=A.grow c;cases t with
   |false=>rw[if_neg b9];cases q;exact k _ n p i tt B rfl
   |true=>
    rw[if_pos rfl];dsimp only at q;obtain⟨a,V,Z,q⟩:=ai q;refine⟨n,p,L,o,a,V,B,l.mono tt,Z,λw' O m4 H4 I D p4=>?_⟩;cases e:b y a with
    |none=>rw[e]at q;cases q
    |some z2=>rw[e]at q;cases q;exact⟨O,y,a,_,D.ft,RP.mono I (RP.grow c K),p4,e,λw2 R T s p5=>k w2 R m4 T (tt.trans (I.trans s.stp)) (D.grow s) p5⟩
  |_=>cases q
theorem Dv(n:mV X (compareOp u) r)(o:mV X (compareOp v) l)(x:PE X a (tV X.K C))(e:PE X b (tV X.K U))(s:PE X c (tV X.K z))(m:lastMarks [u,v] [b,c]=false) :
  PE X (.Compare a [u,v] [b,c] J) (tV X.K (lF r l C U z)):=(zA n o x e s m).imp' λ_ _ _ h=>uA h
theorem Dj(j:mV X (compareOp op) u)(o:mV X (compareOp op') g')(t:PE X a (tV X.K C))(w:PE X b (tV X.K U))(g:PE X c (tV X.K z))(i:lastMarks [op,op'] [b,c]=false) :
  PT X (.Compare a [op,op'] [b,c] J) (tQ X.K (bV (lF u g' C U z))):=(ze j o t w g i).imp' λN H Q h=>by
 refine uA ?_;obtain⟨F,m,L,S,d,P,r,l,q,k⟩:=h;obtain⟨x,A,f,q⟩:=ai q;cases x with
 |bl b=>cases q;exact⟨F,m,L,S,_,_,r,l,f,λv e y n s K p=>⟨_,p,k e y n s K⟩⟩
 |_=>cases q
def u6:P->Option Bool
 | .non=>some false
 | .bl b=>some b
 | .int i=>some (i != 0)
 | .str x=>if iC x.length=true then some ((x.length:Int) != 0) else none
 | .tup s=>some (!s.isEmpty)
 | .lst s=>some (!s.isEmpty)
 | .ro s=>some (!s.isEmpty)
 | .dct k _=>some (!k.isEmpty)
def yK:D->aD->Option Bool
 | .p v,_=>u6 v
 | .ref i,S=>match S[i]? with
  |some (.lst d)=>some (!d.isEmpty)
  |some (.dct k _)=>some (!k.isEmpty)
  |some (.fz v)=>u6 v
  |_=>none
def bT(f:EE):EB:=λL S=>aG (f L S) λd h=>(yK d h).map λb=>(b,h)
theorem hR{x:List d}{y:List q}(h:x.length=y.length):x.isEmpty=y.isEmpty:=by cases x<;>cases y<;>first|rfl|simp at h
theorem wq(p:RP X.K F H w v)(h:u6 w=some r):Fp X.K v H r:=by
 cases w with
 |non=>cases (show v=.non from p);cases h;rfl
 |bl b=>cases (show v=.bl b from p);cases h;rfl
 |int b=>cases (show v=.int b from p);cases h;rfl
 |str x=>
  cases (show v=.str x from p);simp only[u6]at h;split at h
  .rename_i c;cases h;exact⟨hZ c,rfl⟩
  .cases h
 |tup d=>obtain⟨a,s,rfl,t,e⟩:=p;cases h;exact .inr (.inl ⟨s,t.sq,by rw[hR e.length]⟩)
 |lst d=>obtain⟨a,s,rfl,t,e⟩:=p;cases h;exact .inl ⟨s,t.sq,by rw[hR e.length]⟩
 |ro d=>obtain⟨a,s,rfl,t,e⟩:=p;cases h;exact .inl ⟨s,t.sq,by rw[hR e.length]⟩
 |dct m d=>obtain⟨a,k,rfl,_,f,n,e⟩:=p;cases h;exact .inr (.inr ⟨k,f,by rw[<- n];cases k<;>rfl⟩)
theorem yT(h:PE X e (tE X.K Y))(C:∀o,isTrue e X.env o=(do let v <- o;standAt e.pos;holding [v] (truthy v))):PT X e (tQ X.K (bT Y)):=
 (zd h C).imp' λN H Q D=>by
  obtain⟨F,m,L,S,d,J,r,l,q,k⟩:=D;obtain⟨x,K,A,q⟩:=ai q;cases s:yK x K with
  |none=>rw[s]at q;cases q
  |some t=>
   rw[s]at q;cases q;refine⟨F,m,L,S,x,_,r,l,A,λv y E z G b g=>⟨_,?_,k y E z G b⟩⟩;cases x with
   |p w=>exact wq g s
   |ref j=>
    obtain⟨a,rfl,u⟩:=g;simp only[yK]at s;split at s
    .rename_i P n;cases s;obtain⟨I,c,i⟩:=b.obj j a _ u n;exact .inl ⟨I,ie.of c,by rw[hR i.length]⟩
    .rename_i M P n;cases s;obtain⟨f,c,B,i⟩:=b.obj j a _ u n;exact .inr (.inr ⟨f,c,by rw[<- B];cases f<;>rfl⟩)
    .rename_i w n;exact wq (b.obj j a _ u n) s
    .cases s
def tw(g:jf)(f:EV):ES:=λL S=>aG (f L S) λv x=>match g v L with
 |some h=>some (.nx,h,x)
 |none=>none
theorem JP(p:PE X e (tV X.K C))(d:PG X tg (gT X.K u))(w:swapsWithSole [tg] e J.line X.env=pure false)(hw:swappedStores [tg] e X.env=pure none)(t:(assignEach [tg] X.env).map (·.2)=[assign tg X.env]) :
  PS X (.Assign [tg] e J) (jn X.K (tw u C)):=(zi p d w hw t).imp' λD N H z=>by
 obtain⟨F,m,L,S,P,o,K,r,l,q,k⟩:=z;obtain⟨v,b,c,q⟩:=ai q;refine⟨F,m,L,S,v,b,r,l,c,λx a s f n y j=>?_⟩;cases g:u v L with
 |none=>rw[g]at q;cases q
 |some L2=>rw[g]at q;cases q;exact⟨a,s,L,v,_,l.mono n,j,g,λh i=>k h a s f n y i⟩
def au:P->P->Option P
 | .tup [],.tup s=>some (.tup s)
 |x,y=>sK x y
theorem Fg{M:Program}{w:World}{A:Around}{E:VP}{s:Shared}{t b:Addr}{a:LV}{Q:VP}(n:IsTup s.heap t #[])(e:IsTup s.heap b a.toArray)(h:Q (.ref b) s):wpAny (model M w) A (binaryOp .Add (.ref t) (.ref b)) Q E s:=by obtain⟨o,g,k,m,l⟩:=id n;obtain⟨p,x,f,r,c⟩:=id e;cases o;cases p;cases k;cases l;cases f;cases c;exact concat_meets ⟨_,g,rfl⟩ ⟨_,x,rfl⟩ noFill_tuple_add seq_tuple_add uQ uU (uX _ _) (tuple_addW0 t b #[] a.toArray m r _ _ _ _ rfl) ⟨g,x,h⟩
theorem Eh:mV X (binaryOp .Add) au:=by
 intro B s N H x y v u Q I r m h;obtain⟨F,e,n,d,t,c,p,q,k⟩:=h;have o:sK e n=some d->wpAny (model X.prog X.w) X.A (binaryOp .Add v u) (EP X B N Q) X.xe s:=λq=>Hx B s N H x y v u Q I r m ⟨F,e,n,d,t,c,p,q,k⟩
 cases e with
 |tup f=>
  cases n with
  |tup es=>
   cases f with
   |nil=>cases q;obtain⟨a,P,rfl,S,z⟩:=c;obtain⟨b,D,rfl,K,C⟩:=id p;cases (show P=[] from z);cases r;cases m;obtain⟨w,l,g,_⟩:=I.tuple S.sq;obtain⟨i,A,j,_⟩:=I.tuple K.sq;cases l;exact Fg g j ⟨.ref b,H,I,rfl,k _ F H .refl p⟩
   |cons _ _=>exact o q
  |_=>cases f<;>exact o q
 |_=>exact o q
def wb(K:FG)(m:SV)(x:Str)(v:P):Prop:=∃u w,m x=some u/\RelV w u/\∀F H,RP K F H v w
theorem Gj(g:Gl X x)(h:wb X.K X.mg x v)(hd:(x == ("__debug__":Str))=false):PE X (.Name x J) (tV X.K (vC v)):=by obtain⟨u,w,m,r,p⟩:=h;exact xC (wD g m r hd) p
end
section
variable{X:Cx}{a:Expr}{C:EE}{p J:Pos}
def xT(T:String):D->aD->Option Bool
 | .p v,_=>some (gU T v)
 | .ref i,S=>match S[i]? with
  |some (.lst _)=>some (gU T (.lst []))
  |some (.dct _ _)=>some (gU T (.dct [] []))
  |some (.fz v)=>some (gU T v)
  |_=>none
def u4(T:String)(f:EE):EV:=λL S=>aG (f L S) λd h=>(xT T d h).map λb=>(.bl b,h)
theorem yk(T:∀K:FG,∀v:P,PySem.W.kitOne K (.type (yu v)) (.type l)=some (gU l v)) :
  dU X (.builtin "isinstance") (λA H Q=>∃F m S d b x,A=[x,.ty l]/\Rel X.K F H m S/\RD X.K F H m d x/\xT l d S=some b/\Q (.bl b) H):=by
 intro B s N H A U Q I r h;obtain⟨F,m,S,d,b,x,rfl,g,pd,i,q⟩:=h;have plain:∀w:P,RP X.K F H w x->gU l w=b->wpAny (model X.prog X.w) X.A _ _ _ _:=λw hw e=>AI T B s N H [x,.ty l] U Q I r ⟨F,w,x,rfl,hw,by rw[e];exact q⟩
 cases d with
 |p w=>cases i;exact plain w pd rfl
 |ref j=>
  obtain⟨a,rfl,t⟩:=pd;simp only[xT]at i;obtain⟨u,V,rfl,C,y⟩:=vals2 r;cases (show V=Value.type l from y);have f:∀D,EP X B N Q (.bool b) { s with toks:=D }:=λD=>⟨.bl b,H,I.tok _,rfl,q⟩;split at i
  .rename_i E k;obtain⟨A,c,R⟩:=g.obj j a _ t k;have e:=T X.K (.lst []);rw[show gU l (.lst [])=b by cases i;rfl]at e;cases C;obtain⟨L,_,O,_⟩:=I.list (ie.of c);obtain⟨o,n,G,J,_⟩:=O;exact d4 ny I.kIn ⟨o,G,J⟩ e (λz=>nomatch z) f
  .rename_i Y E k;obtain⟨M,c,W,R⟩:=g.obj j a _ t k;have e:=T X.K (.dct [] []);rw[show gU l (.dct [] [])=b by cases i;rfl]at e;exact gL I C (.dK c) e f
  .rename_i w k;exact plain w (g.obj j a _ t k) (by cases i;rfl)
  .cases i
theorem Ga(T:∀K:FG,∀v:P,PySem.W.kitOne K (.type (yu v)) (.type u)=some (gU u v))(o:Gl X "isinstance")(A:X.mg "isinstance"=none)(h:Gl X tn)(n:X.mg tn=none)(z:bootBuiltins tn=some (.type u))(y:PE X a (tE X.K C))
  (B:tn≠"__name__") (hd:(tn == ("__debug__":Str))=false) (c:starEach [a,.Name tn p2] X.env=[(false,eval a X.env),(false,eval (.Name tn p2) X.env)]):PE X (.Call (.Name "isinstance" p) [a,.Name tn p2] [] J) (tV X.K (u4 u C)):=
 (jD (yk T) o A PyProof.Rows.boot_isinstance (dR y (dR (wF (v:=.ty u) h n z rfl B hd) gm rfl) (by rw[c];rfl)) (by decide) (by decide) (by rw[c];rfl) rfl).imp' λN H Q D=>by
  obtain⟨F,m,L,S,d,G,r,l,q,k⟩:=D;obtain⟨x,i,j,q⟩:=ai q;cases e:xT u x i with
  |none=>rw[e]at q;cases q
  |some b=>rw[e]at q;cases q;exact⟨F,m,L,S,_,_,r,l,j,λv f t g s w E=>⟨f,t,_,x,b,v,rfl,w,E,e,k _ f t g s w rfl⟩⟩
end
noncomputable def gR(f:Str):LS->List D->Option D
 |k::h,d::s=>if k=f then some d else gR f h s
 |_,_=>none
noncomputable def putK(f:Str):LS->LS
 | []=>[f]
 |k::s=>if k=f then k::s else k::putK f s
noncomputable def nS(f:Str)(y:D):LS->List D->List D
 | [],_=>[y]
 |k::h,d::s=>if k=f then y::s else d::nS f y h s
 |_::_,[]=>[]
def jg(K:FG)(c:Str)(C:Addr):Prop:=PySem.W.nsIn K mainGlobals c=some (some (.ref C))
variable{K:FG}
theorem jg.inj(h:jg K c r)(x:jg K c v):r=v:=by have:=h.symm.trans x;cases this;rfl
def JO(K:FG)(A:Str->Str->Bool):Prop:=∀c f,A c f=true->∃C,jg K c C/\Cls K C/\kL K C f
section
variable{K:FG}{F:Aa}{H:Hp}{m:List Addr}
theorem wK:∀{a:List (Str×V)}{s:List D}{d:D},dt K F H m s (a.map (·.2))->gR f (a.map (·.1)) s=some d->∃v,a.lookup f=some v/\RD K F H m d v
 | [],s,d,_,h=>by cases s<;>cases h
 |(k,x)::r,s,d,q,h=>by
  cases s with
  |nil=>cases h
  |cons w s=>
   obtain⟨y,u,e,t,p⟩:=q;simp only[List.map_cons,m5]at e;obtain⟨rfl,rfl⟩:=e;simp only[List.map_cons,gR]at h;split at h
   .rename_i n;cases h;subst n;exact⟨x,by simp[List.lookup],t⟩
   .rename_i n;obtain⟨v,b,c⟩:=wK p h;exact⟨v,by rw[qA,show(f == k)=false by simpa using λz=>n z.symm];exact b,c⟩
theorem wJ:∀{v:List (Str×V)},(v.map (·.1)).contains f=false->v.lookup f=none
 | [],_=>rfl
 |(k,x)::r,h=>by simp only[List.map_cons,List.contains_cons,Bool.or_eq_false_iff]at h;rw[qA,h.1];exact wJ h.2
theorem zc(h:RD K F H m u v):∀{s:List (Str×V)}{d:List D},dt K F H m d (s.map (·.2))->(im f v s).map (·.1)=putK f (s.map (·.1))/\dt K F H m (nS f u (s.map (·.1)) d) ((im f v s).map (·.2))
 | [],d,n=>⟨rfl,v,[],rfl,h,rfl⟩
 |(k,x)::r,d,n=>by
  cases d with
  |nil=>cases (show _=([]:List V) from n)
  |cons p d=>
   obtain⟨z,q,e,c,a⟩:=n;simp only[List.map_cons,m5]at e;obtain⟨rfl,rfl⟩:=e;by_cases b:k=f
   .simp only[im,b,iR,List.map_cons,putK,nS];first|exact⟨rfl,v,_,rfl,h,a⟩|exact⟨trivial,v,_,rfl,h,a⟩
   .obtain⟨i,t⟩:=zc h a;simp only[im,b,jq,List.map_cons,putK,nS];exact⟨by rw[i],x,_,rfl,c,t⟩
end
section
variable{X:Cx}{o e g:Expr}{f:Str}{J G j:Pos}{T Q:EE}{A:Str->Str->Bool}{es:Ab}{fs:l8}
def d6(A:Str->Str->Bool)(o:EE)(f:Str):EE:=λL S=>aG (o L S) λd h=>match d with
 | .ref i=>match h[i]? with
  |some (.ins c k s)=>if A c f=true then (gR f k s).map λz=>(z,h) else none
  |_=>none
 |_=>none
theorem Kb(B:JO X.K A)(R:PE X o (tE X.K T))(G:attributeBase o f X.env (eval o X.env)=eval o X.env):PE X (.Attribute o f J) (tE X.K (d6 A T f)):=(D9 R G).imp' λN H Q V=>by
 obtain⟨F,m,L,S,d,S',r,l,q,k⟩:=V;obtain⟨x,u,y,q⟩:=ai q;refine⟨F,m,L,S,x,u,r,l,y,λv b Y t s1 n Z=>?_⟩;cases x with
 |p w=>cases q
 |ref i=>
  obtain⟨a,rfl,M⟩:=Z;dsimp only at q;split at q
  .rename_i c W g U;split at q
   .rename_i E;cases h:gR f W g with
    |none=>rw[h]at q;cases q
    |some z=>rw[h]at q;cases q;obtain⟨C,j,s,P,D,rfl,rs⟩:=n.obj i a _ M U;obtain⟨C',e,I,O⟩:=B c f E;cases jg.inj P e;obtain⟨v,K,p3⟩:=wK rs h;exact⟨a,C,j,s,v,rfl,D,I,O,K,k v b Y t s1 n p3⟩
   .cases q
  .cases q
def kS(A:Str->Str->Bool)(o:EE)(f:Str)(v:EE):ES:=λL S=>aG (v L S) λy x=>aG (o L x) λd h=>match d with
 | .ref i=>match h[i]? with
  |some (.ins c k s)=>if (A c f && decide (k.length < 900))=true then some (.nx,L,h.set i (.ins c (putK f k) (nS f y k s))) else none
  |_=>none
 |_=>none
theorem F5(hA:JO X.K A)(ho:PE X o (tE X.K T))(hv:PE X g (tE X.K Q))(h:swapsWith g (some (.Attribute o f G)) J.line X.env=pure false):PS X (.Assign [.Attribute o f G] g J) (jn X.K (kS A T f Q)):=(DY ho hv h).imp' λD N H hz=>by
 obtain⟨F,m,L,S,fl,L',S',r,l,q,k⟩:=hz;obtain⟨y,I,Y,q⟩:=ai q;obtain⟨d,W,Z,q⟩:=ai q;refine⟨F,m,L,S,y,I,r,l,Y,λv V m1 H1 B r1 p1=>?_⟩;refine⟨V,m1,L,I,d,W,r1,l.mono B,Z,λx e K n E P p2=>?_⟩;cases d with
 |p w=>cases q
 |ref i=>
  obtain⟨a,rfl,j⟩:=p2;dsimp only at q;split at q
  .rename_i c ks ds h;split at q
   .rename_i u;rw[Bool.and_eq_true]at u;cases q;obtain⟨C,b,s,M,O,rfl,rs⟩:=P.obj i a _ j h;obtain⟨C',t,hc,hn⟩:=hA c f u.1;cases jg.inj M t;have hl:s.length < 1000:=by have:=aS u.2;rw[a7]at this;lia
    have R:∀U,n a≠some (.tup U):=λU z=>by rw[O]at z;cases z
    have st:Stp e K n e K (bW n a (.ins C b (im f v s))):=fR P j h trivial R;obtain⟨i1,i2⟩:=zc (f:=f) (RD.mono st (RD.mono E p1)) (dt.mono st rs);exact⟨a,C,b,s,rfl,O,hc,hn,hl,k N e K _ (B.trans (E.trans st)) (P.set j h trivial R ⟨C,b,_,M,aE,i1,i2⟩) ((l.mono B).mono (E.trans st))⟩
   .cases q
  .cases q
def dS(M:Str->Str->Option GF)(o:EE)(y:Str)(a:l8):EE:=λL S=>aG (o L S) λd h=>match d with
 | .ref i=>match h[i]? with
  |some (.ins c k _)=>match M c y with
   |some g=>if k.contains y=true then none else aG (a L h) λO x=>g (.ref i::O) x
   |none=>none
  |_=>none
 |_=>none
def JL(X:Cx)(M:Str->Str->Option GF):Prop:=∀c y g,M c y=some g->∃C k f d p,jg X.K c C/\Cls X.K C/\Meth X.K C y f/\FnOk X.prog X.w X.K X.mg X.base qy k f d p (oZ X.K g)/\Room k X.A/\Binds X.K d p []
variable{M:Str->Str->Option GF}{y:Str}
theorem pX(hM:JL X M){t:TE}{ta:TA}(n:∀C k f b ps g,Cls X.K C->Meth X.K C y f->FnOk X.prog X.w X.K X.mg X.base qy k f b ps (oZ X.K g)->Room k X.A->Binds X.K b ps []->PE X e (yV C y (oZ X.K g) [] E0 (tE X.K T) (u_ X.K fs))):PE X e (tE X.K (dS M T y fs)):=by
 intro B s N H Q I h;obtain⟨F,m,L,S,d,Y,r,l,q,k⟩:=h;obtain⟨x,o,e1,q⟩:=ai q;cases x with
 |p w=>cases q
 |ref i=>
  dsimp only at q;split at q
  .rename_i c ks ds hs;split at q
   .rename_i g hg;split at q
    .cases q
    .rename_i hk;obtain⟨O,K,e2,q⟩:=ai q;obtain⟨C,kk,f,b,ps,ec,hc,hm,hF,hr,hb⟩:=hM c y g hg;refine n C kk f b ps g hc hm hF hr hb B s N H Q I ⟨F,m,L,S,.ref i,o,r,l,e1,λv G m1 H1 D A P=>?_⟩;obtain⟨a,rfl,j⟩:=id P;obtain⟨C',Z,z,u,hH,rfl,rs⟩:=A.obj i a _ j hs;cases jg.inj ec u;refine⟨a,Z,z,rfl,hH,wJ (by simpa using hk),G,m1,L,o,O,K,A,l.mono D,e2,λxs J m2 U E r2 p2=>?_⟩;show oZ X.K g (V.ref a::(xs++[])) U Q E0;rw[List.append_nil];exact⟨J,m2,.ref i::O,K,d,Y,r2,⟨_,_,rfl,RD.mono E P,p2⟩,q,λv R m3 W s3 r3 p3=>k v R m3 W (D.trans (E.trans s3)) r3 p3⟩
   .cases q
  .cases q
theorem Gg(x:JL X M)(n:PE X o (tE X.K T))(a:PA X (e::es) (u_ X.K fs))(s:starEach (e::es) X.env=(false,eval e X.env)::starEach es X.env)(h:(backTo J (starEach es X.env)).any (·.1)=false)
  (p:eval (.Call (.Attribute o y j) (e::es) [] J) X.env=(do
   let v <- eval o X.env
   standAt j.atName
   let (f,first) <- holding [v] (getMethod v y l)
   callWith J f first (backTo J (starEach (e::es) X.env)) (backToKw J (keywordEach [] X.env)))) :
  PE X (.Call (.Attribute o y j) (e::es) [] J) (tE X.K (dS M T y fs)):=
 pX (t:=tE X.K T) (ta:=u_ X.K fs) x λC k f d q g c m F r b=>BI n c m F r b .nil pU a s h p
theorem Dq(i:JL X M)(B:PE X o (tE X.K T))
  (E:eval (.Call (.Attribute o y j) [] [] J) X.env=(do
   let u <- eval o X.env
   standAt j.atName
   let (f,first) <- holding [u] (getMethod u y pl)
   callWith J f first (backTo J (starEach [] X.env)) (backToKw J (keywordEach [] X.env)))) :
  PE X (.Call (.Attribute o y j) [] [] J) (tE X.K (dS M T y aV)):=
 pX (t:=tE X.K T) (ta:=u_ X.K aV) i λC k f fd ps g K A p D z=>(zr B K A p D z .nil pU E).imp' λN H Q h=>by obtain⟨F,m,L,S,d,n,r,l,q,k⟩:=h;refine⟨F,m,L,S,d,n,r,l,q,λv e I x Y V R=>?_⟩;obtain⟨a,c,fs,rfl,w,P,s,O,L2,Z,ds,b,W,l2,U,G⟩:=k v e I x Y V R;cases U;exact⟨a,c,fs,rfl,w,P,G [] s O x .refl W rfl⟩
def oG(g:GF)(c:Str)(a:l8):EE:=λL S=>aG (a L S) λO h=>match g (.ref h.length::O) (h++[.ins c [] []]) with
 |some (.p .non,x)=>some (.ref h.length,x)
 |_=>none
theorem Gh{C f:Addr}{o:FuncData}{ps:LS}{k:Nat}{x:Str}{p:Pos}{g:GF}(M:Mk X.K C f)(G:FnOk X.prog X.w X.K X.mg X.base qy k f o ps (oZ X.K g))(hr:Room (k+1) X.A)(Z:Gl X x)(hm:X.mg x=some (.ref C))(U:jg X.K x C)(W:Binds X.K o ps [])
  (V:PA X (e::es) (u_ X.K fs)) (i:(x == ("__debug__":Str))=false) (Y:starEach (e::es) X.env=(false,eval e X.env)::starEach es X.env) (z:(backTo J (starEach es X.env)).any (·.1)=false) :
  PE X (.Call (.Name x p) (e::es) [] J) (tE X.K (oG g x fs)):=
 (BJ M G hr Z hm W .nil pU V i Y z).imp' λN H Q hz=>by
  obtain⟨F,m,L,S,d,S',r,l,q,k⟩:=hz;obtain⟨O,t,I,q⟩:=ai q;refine⟨F,m,L,S,O,t,r,l,I,λxs s a b s1 K p1=>λy h hy w j=>?_⟩;split at q
  .rename_i _ S2 R;cases q;have P:Stp s a b s a (bW b h (.own y)):=iU w;have r2:Rel X.K s (bW b h (.own y)) a t:=K.new w;have u:bW b h (.own y) y=none:=by rw[ao (Ne.symm j)];exact hy
   have A:Stp s a (bW b h (.own y)) s (a++[y]) (bW (bW b h (.own y)) y (.ins C h [])):=fw u;have r3:Rel X.K s (bW (bW b h (.own y)) y (.ins C h [])) (a++[y]) (t++[.ins x [] []]):=r2.own u ⟨C,h,[],U,aE,rfl,rfl⟩;rw[List.append_nil];have c:(a++[y])[t.length]? = some y:=by rw[<- K.len,fK (Nat.le_refl _)];simp
   refine⟨s,a++[y],.ref t.length::O,_,.p .non,_,r3,⟨_,_,rfl,⟨y,rfl,c⟩,dt.mono A (dt.mono P p1)⟩,R,λv D m4 E B r4 p4=>⟨p4,?_⟩⟩;refine k (.ref y) D m4 E (s1.trans (P.trans (A.trans B))) r4 ⟨y,rfl,?_⟩;obtain⟨n,T⟩:=B.pre;rw[T,List.getElem?_append_left (List.getElem?_eq_some_iff.mp c).1];exact c
  .cases q
end
theorem Eo(h:attributeBase o y v (eval o v)=eval o v)(e:methodCallForm (r.length+([]:List Keyword).length) (backTo J (starEach r v)) (backToKw J (keywordEach [] v))=true)(l:(j.endLine == J.line)=true) :
  eval (.Call (.Attribute o y j) r [] J) v=(do
   let u <- eval o v
   standAt j.atName
   let (f,first) <- holding [u] (getMethod u y (do return (<- importBound o v).getD true))
   callWith J f first (backTo J (starEach r v)) (backToKw J (keywordEach [] v))):=by
 have x:methodCallPos true o v j J=pure J:=by unfold methodCallPos;rw[l];rfl
 have a:∀u,methodCall o y j J v u (r.length+([]:List Keyword).length) (backTo J (starEach r v)) (backToKw J (keywordEach [] v))=(do
   let (f,first) <- holding [u] (getMethod u y (do return (<- importBound o v).getD true))
   callWith J f first (backTo J (starEach r v)) (backToKw J (keywordEach [] v))):=λu=>by
  unfold methodCall;rw[e,x];rfl
 have s:eval (.Call (.Attribute o y j) r [] J) v=(do
  let u <- attributeBase o y v (eval o v)
  standAt j.atName
  methodCall o y j J v u (r.length+([]:List Keyword).length) (backTo J (starEach r v)) (backToKw J (keywordEach [] v))):=by rfl
 rw[s,h];simp only[a]
open PySem.W (KasT kas_sort kas_ask kas_item kat_run kat_snds kat_lt kat_kind KatTups KatLex kat_nil kat_cons kat_yes kat_no kat_one)
variable{d:Type}
noncomputable def Cd(lt:Nat->Nat->Option Bool):KasT d->Option d
 | .ret a=>some a
 | .ask i j k=>match lt i j with
  |some b=>Cd lt (k b)
  |none=>none
variable{s:Shared}
theorem Au(c:∀i j b C,lt i j=some b->C b s->v i j C s)(q:r a s) :
  ∀(t:KasT d),Cd lt t=some a->t.kasWp v r s
 | .ret _,h=>by cases h;exact q
 | .ask i j k,h=>by
  simp only[Cd]at h;split at h
  .rename_i b x;exact c i j b _ x (Au c q (k b) h)
  .cases h
section
variable{I:Program}{w:World}{A:Around}{E:VP}{s:Shared}{D:Addr}{O:LV}
theorem ud(few:O.length < 2):((arrOf (SortSt.mk' general' (O.toArray.zip O.toArray) #[] 7 none)).map (·.2))=O.toArray:=by
 have same:(O.toArray.zip O.toArray).map (·.2)=O.toArray:=by
  rcases O with _|⟨v,_|⟨u,r⟩⟩
  .simp
  .simp
  .exact absurd few (by simp)
 exact same
theorem Aq(few:O.length < 2)(a:s.heap.get? D=some (seqObj "list" O.toArray r))
  (g:∀x c,(∀b o,b≠D->s.heap.get? b=some o->x.get? b=some o)->x.get? D=some (seqObj "list" O.toArray c)->v (.done (.ret .none)) { s with heap:=x }) :
  wpAny (model I w) A (Builtin.«list.sort» ⟨[.ref D],[]⟩) v E s:=by
 have m:O.length+1≤sizeLine:=by rw[lm];lia
 have cond:O.toArray.size < 2:=by simpa using few
 have h:=get?_update_seq a λ_=>(#[]:Array Value);rw[list_sort_plain];refine wpAny_bind <|listItems_at a rfl <|wpAny_bind <|listUpdate_at a rfl (wpAny_bind <|seqEpoch_at h rfl <|wpAny_bind <|wpAny_newTuple (wpAny_bind <|wpAny_newList (wpAny_holding ?_) (Nat.zero_le _)) (by simpa using qQ m)) (by simpa using qQ m) (Nat.zero_le _);simp only[cond,iR];have k:∀b o,(s.heap.update D (Obj.mapSeq λ_=>(#[]:Array Value))).get? b=some o->((((s.heap.update D (Obj.mapSeq λ_=>(#[]:Array Value))).push { cls:=.type "tuple",data:=.seq O.toArray }).push { cls:=.type "list",data:=.seq ([]:LV).toArray })).get? b=some o:=
  λ_ _ q=>Heap.get?_push_of_some _ (Heap.get?_push_of_some _ q)
 have t:=k D _ h;refine wpAny_bind <|wpAny_pure <|wpAny_bind <|wpAny_pure ?_;refine wpAny_bind <|seqEpoch_at t rfl <|wpAny_bind <|listUpdate_at t rfl ?_ (Nat.zero_le _) (by rw[ud few];simpa using Nat.le_succ_of_le (qQ m));rw[ud few];have FT:=get?_update_seq t λ_=>O.toArray;simp only[bne_self_eq_false,qE,jq,failedOf];refine wpAny_pure (g _ _ (λb o n e=>?_) FT);exact((qD _ D _).2 b n).trans (k b o (((qD s.heap D _).2 b n).trans e))
theorem uJ(q:∀a u,r a u->v a u):∀(t:KasT d)(u:Shared),t.kasWp (kas_ask I w A l O) r u->t.kasWp (kas_ask I w A l O) v u
 | .ret a,u,h=>q a u h
 | .ask _ _ k,_,h=>wpAny_mono h (λb u e=>uJ q (k b) u e) λ_ _ x=>x
theorem Bn{a:Heap}{L l:Addr}{m:SV}{t:PN}{T:String}{o:Obj}{n:Nat}{G:VP}(F:Fr a L s.heap m)(N:News a L s.heap t)(Z:T="list"\/T="tuple")(ho:s.heap.get? l=some o)(hc:o.cls=.type T)(hd:o.data=.seq O.toArray n)(B:O.length < 64)
  (X:O.length < 2->∀D d c,s.heap.get? D=none->Fr a L d m->News a L d ((D,seqObj "list" O.toArray c)::t)->G (.ref D) { s with heap:=d })
  (Y:2≤O.length->∀D e d,s.heap.get? D=none->(∀q ∈ t,q.1≠D)->Fr a L d m->News a L d ((D,seqObj "list" #[] e)::t) ->
   wpAny (model I w) A.in1.in1 (keyKind' O.toArray) (λQ u=>(kas_sort O.length).kasWp (kas_ask I w A.in1.in1 Q O) (λp u=>PySem.W.KasFin a L m D e (p.toList.map λi=>O.getD i Value.none) (λu=>G (.ref D) u) u) u) (λ_ _=>False) { s with heap:=d }) :
  wpAny (model I w) A (call (.builtin "sorted") [.ref l]) G E s:=by
 have y:O.length≤sizeLine:=by rw[lm];lia
 refine Calls.call_function_entry (b:=Builtin.«sorted») kind_sorted plain_sorted entry_sorted (args_sorted1 (.ref l)) (wpAny_bind (m:=checkCount "sorted" 1 1 1) <|wpAny_pure <|wpAny_bind <|wpAny_collect_seq l Z ho hc hd (λh k=>wpAny_bind <|wpAny_newList ?_ y) y);have f:∀b,b=h.objs.size->s.heap.get? b=none:=λb hb=>by
  cases q:s.heap.get? b with
  |none=>rfl
  |some u=>exact absurd (Heap.lt_size (k b u q)) (by rw[hb];exact jt _)
 have M:∀b u,s.heap.get? b=some u->(h.push { cls:=.type "list",data:=.seq O.toArray }).get? b=some u:=λb u e=>Heap.get?_push_of_some _ (k b u e);have j:(h.push { cls:=.type "list",data:=.seq O.toArray }).get? h.objs.size=some (seqObj "list" O.toArray 0):=Heap.get?_push_size _ rfl;have H:h.objs.size≠L:=λz=>by obtain⟨u,_,_,e,_⟩:=F.ns;rw[f L z.symm]at e;cases e
 have S:a.get? h.objs.size=none:=by
  rcases q:a.get? h.objs.size with _|u
  .rfl
  .have:=F.keep _ _ q;rw[f _ rfl]at this;cases this
 have neN:∀q ∈ t,q.1≠h.objs.size:=λq hq z=>by have:=(N q hq).1;rw[f _ z]at this;cases this
 have K:=F.keeps M;have P:=N.keeps M;refine wpAny_bind (wpAny_holding (wpAny_call_entry (b:=Builtin.«list.sort») slot_list_sort ⟨_,j,rfl⟩ entry_list_sort ?_ (args_list_sort _)));by_cases few:O.length < 2
 .refine Aq (s:={ s with heap:=h.push { cls:=.type "list",data:=.seq O.toArray } }) few j λd c J e=>⟨_,rfl,wpAny_pure ⟨_,rfl,X few _ d c (f _ rfl) ⟨?_,λb u q=>?_,F.above⟩ λq g=>?_⟩⟩
  .obtain⟨u,es,W,V,r⟩:=K.ns;exact⟨u,es,W,J L u H.symm V,r⟩
  .exact J b u (λz=>by rw[z,S]at q;cases q) (K.keep b u q)
  .rcases ba.mp g with rfl|g
   .exact⟨e,H,S⟩
   .exact⟨J _ _ (neN q g) (P q g).1,(P q g).2⟩
 .refine PySem.W.kat_list_sort (s:={ s with heap:=h.push { cls:=.type "list",data:=.seq O.toArray } }) K P j H S neN (by lia) B λe d R U=>?_;refine wpAny_mono (Y (by lia) _ e d (f _ rfl) neN R U) (λQ u hu=>?_) λ_ _ x=>x;exact uJ (λp v C=>C.mono λv C=>⟨_,rfl,wpAny_pure ⟨_,rfl,C⟩⟩) _ _ hu
end
noncomputable def isInt:P->Bool
 | .int _=>true
 |_=>false
noncomputable def vr:List P->List P->Option Bool
 | [],s=>some (decide (0 < s.length))
 |_::_,[]=>some false
 | .int a::x,.int b::y=>if a == b then vr x y else some (decide (a < b))
 | .str a::x,.str b::y=>if a=b then vr x y else some (decide (a.cps.toList < b.cps.toList))
 |_,_=>none
noncomputable def B8:P->Bool
 | .int _=>true
 | .str _=>true
 |_=>false
def KZ:P->P->Option Bool
 | .int a,.int b=>some (decide (a < b))
 | .tup x,.tup y=>vr x y
 |_,_=>none
def lO:P->Bool
 | .tup (e::es)=>(e::es).all isInt
 |_=>false
def n_:P->Bool
 | .tup (.str _::es)=>es.all B8
 |_=>false
def jG(d:List P)(i j:Nat):Option Bool:=match d[i]?,d[j]? with
 |some x,some y=>KZ x y
 |_,_=>none
def ma(d:List P):Option (List P):=if d.length < 2 then some d else if d.length < 64 then (Cd (jG d) (kas_sort d.length)).bind λp=>if p.size < 64 then some (p.toList.map λi=>d.getD i .non) else none else none
def sortable(d:List P):Bool:=(d.all isInt ||d.all lO) ||d.all n_
def jS(d:List P):Option P:=if sortable d=true then (ma d).map .lst else none
def IV(e:P)(u:Value):Prop:=∃i t,e=P.int i/\u=Value.int i t
def FV(e:P)(u:Value):Prop:=IV e u\/∃x t,e=P.str x/\u=Value.str x t
def KV(h:Heap)(d:P)(v:Value):Prop:=IV d v\/∃es a o n i,d=.tup es/\v=.ref a/\h.get? a=some o/\o.cls=.type "tuple"/\o.data=.seq (List.toArray i) n/\Paired FV es i
variable{q:Type}{R:d->q->Prop}
theorem fL:∀{s:List d}{a:List q}{i:Nat}{x:d},Paired R s a->s[i]? = some x->∃y,a[i]? = some y/\R x y
 |_,_,_,_,.nil,h=>by simp at h
 |_,_,0,x,.cons (b:=b) r _,h=>⟨b,rfl,by simp at h;subst h;exact r⟩
 |_,_,i+1,x,.cons _ n,h=>by obtain⟨y,e,r⟩:=fL (i:=i) n (by simpa using h);exact⟨y,by simpa using e,r⟩
theorem eU:∀{x:List d}{y:List q},Paired R x y->x.length=y.length
 |_,_,.nil=>rfl
 |_,_,.cons _ r=>by rw[bt,bt,eU r]
variable{h:Heap}
theorem t5:∀{s:List P}{O:LV},Paired (KV h) s O->s.all isInt=true->∃x,IntsAre O x
 |_,_,.nil,_=>⟨[],.nil⟩
 |d::s,_,.cons k r,q=>by
  rw[eT,Bool.and_eq_true]at q;obtain⟨x,i⟩:=t5 r q.2;rcases k with ⟨n,t,rfl,rfl⟩|⟨es,a,o,n,e,rfl,_⟩
  .exact⟨n::x,.cons n t i⟩
  .exact nomatch q.1
section
variable{I:Program}{w:World}{A:Around}{E:VP}{s:Shared}
theorem Cs(r:Paired (KV s.heap) ds O)(q:ds.all isInt=true)(h:jG ds i l=some b)(c:L b s):kas_ask I w A oneType' O i l L s:=by
 unfold jG at h;split at h
 .rename_i x y k f;obtain⟨u,m,d⟩:=fL r k;obtain⟨v,p,g⟩:=fL r f;have j:=bc.mp q x (bL k);have z:=bc.mp q y (bL f);rcases d with ⟨n,t,rfl,rfl⟩|⟨es,a,o,n,e,rfl,_⟩
  .rcases g with ⟨H,S,rfl,rfl⟩|⟨es,a,o,n,e,rfl,_⟩
   .cases h;unfold kas_ask;rw[iQ,iQ,m,p];exact PySem.W.kat_lt_int c
   .exact nomatch z
  .exact nomatch j
 .cases h
theorem rR{k:Bool}{Q:Bool->Shared->Prop}:∀{es fs:List P}{n j:LV}{i:Nat}{b:Bool},Paired FV es n->Paired FV fs j->vr es fs=some b->k=decide (n.length < j.length)->Q b s->KatLex I w A true k Q (n.zip j) i s
 |_,_,_,_,i,b,.nil,r,h,f,c=>by cases h;rw[List.zip_nil_left];refine kat_nil ?_;rw[f,<- eU r];exact c
 |_,_,_,_,i,b,.cons _ _,.nil,h,f,c=>by
  have:b=false:=by unfold vr at h;cases h;rfl
  subst this;rw[List.zip_nil_right];refine kat_nil ?_;rw[f];simpa using c
 |_,_,_,_,i,b,.cons v p,.cons m q,h,f,c=>by
  rcases v with ⟨x,t,rfl,rfl⟩|⟨x,t,rfl,rfl⟩
  .rcases m with ⟨y,u,rfl,rfl⟩|⟨y,u,rfl,rfl⟩
   .rw [List.zip_cons_cons];refine kat_cons (wpAny_eqBool_int ?_);unfold vr at h;by_cases e:(x == y)=true
    .rw [e];rw[if_pos e]at h;exact kat_yes (rR p q h (by rw[f];simp) c)
    .rw [qL]at e;rw[e];rw[e,if_neg b9]at h;cases h;refine kat_no ?_;by_cases a:(i == 0)=true
     .rw [a];exact oneLt_int c
     .rw [qL]at a;rw[a];exact kat_one _ _ (PyProof.Rows.lt_int (show PySem.W.BoolBack Q (.bool _) s from c))
   .unfold vr at h;cases h
  .rcases m with ⟨y,u,rfl,rfl⟩|⟨y,u,rfl,rfl⟩
   .unfold vr at h;cases h
   .rw [List.zip_cons_cons];refine kat_cons (wpAny_eqBool_str ?_);unfold vr at h;by_cases e:x=y
    .rw [ju e];rw[if_pos e]at h;exact kat_yes (rR p q h (by rw[f];simp) c)
    .rw [cn e];rw[if_neg e]at h;cases h;refine kat_no ?_;by_cases a:(i == 0)=true
     .rw [a];exact oneLt_str c
     .rw [qL]at a;rw[a];exact kat_one _ _ (PyProof.Rows.lt_str (show PySem.W.BoolBack Q (.bool _) s from c))
theorem xh{e:List P}{O:LV}{i j:Nat}{b:Bool}{C:Bool->Shared->Prop}(r:Paired (KV s.heap) e O)(q:∀d ∈ e,¬∃n,d=P.int n)(h:jG e i j=some b)(c:C b s):kas_ask I w A (tuples' true) O i j C s:=by
 unfold jG at h;split at h
 .rename_i x y p g;obtain⟨u,F,D⟩:=fL r p;obtain⟨v,K,E⟩:=fL r g;have J:=q x (bL p);have L:=q y (bL g);rcases D with ⟨n,t,rfl,rfl⟩|⟨es,a,o,n,B,rfl,rfl,S,Q,hd,M⟩
  .exact absurd ⟨_,rfl⟩ J
  .rcases E with ⟨G,T,rfl,rfl⟩|⟨z,N,R,G,l,rfl,rfl,f,H,k,m⟩
   .exact absurd ⟨_,rfl⟩ L
   .unfold kas_ask;rw[iQ,iQ,F,K];exact kat_lt S hd f k (rR M m h (by simp) c)
 .cases h
theorem tY:∀{s:List P}{O:LV},Paired (KV h) s O->s.all lO=true->∃fs,KatTups h O fs/\fs.length=s.length/\∀v ∈ fs,∃i t,v=Value.int i t
 |_,_,.nil,_=>⟨[],.nil,rfl,λ_ z=>nomatch z⟩
 |d::s,_,.cons k r,q=>by
  rw[eT,Bool.and_eq_true]at q;obtain⟨fs,f,e,b⟩:=tY r q.2;rcases k with ⟨n,t,rfl,rfl⟩|⟨es,a,o,n,w,rfl,rfl,p,c,hd,x⟩
  .exact nomatch q.1
  .cases x with
   |nil=>exact nomatch q.1
   |cons u x=>
    rcases u with ⟨i,t,rfl,rfl⟩|⟨i,t,rfl,rfl⟩;rotate_left
    .simp [lO,isInt]at q
    refine⟨.int i t::fs,.cons p c hd rfl f,by rw[bt,bt,e],λv m=>?_⟩;rcases ba.mp m with rfl|m
    .exact⟨i,t,rfl⟩
    .exact b v m
theorem tZ:∀{s:List P}{O:LV},Paired (KV h) s O->s.all n_=true->∃fs,KatTups h O fs/\fs.length=s.length/\∀v ∈ fs,∃x t,v=Value.str x t
 |_,_,.nil,_=>⟨[],.nil,rfl,λ_ z=>nomatch z⟩
 |d::s,_,.cons k r,q=>by
  rw[eT,Bool.and_eq_true]at q;obtain⟨fs,f,b,c⟩:=tZ r q.2;rcases k with ⟨n,t,rfl,rfl⟩|⟨es,a,o,n,u,rfl,rfl,w,p,hd,e⟩
  .exact nomatch q.1
  .cases e with
   |nil=>exact nomatch q.1
   |cons g e=>
    rcases g with ⟨i,t,rfl,rfl⟩|⟨i,t,rfl,rfl⟩
    .exact nomatch q.1
    .refine⟨.str i t::fs,.cons w p hd rfl f,by rw[bt,bt,b],λv m=>?_⟩;rcases ba.mp m with rfl|m
     .exact⟨i,t,rfl⟩
     .exact c v m
theorem CO{s:List P}{f:P->Bool}(h:∀n,f (.int n)=false)(q:s.all f=true):∀d ∈ s,¬∃n,d=P.int n:=λd hd z=>by
 obtain⟨n,e⟩:=z;have:=bc.mp q d hd
 rw[e,h]at this;cases this
theorem B4{d:List P}{O:LV}(r:Paired (KV s.heap) d O)(q:sortable d=true)(m:2≤O.length) :
  wpAny (model I w) A (keyKind' O.toArray) (λu k=>k=s/\∀i j b C,jG d i j=some b->C b k->kas_ask I w A u O i j C k) (λ_ _=>False) s:=by
 unfold sortable at q;rw[jv,jv]at q;rcases q with (q|q)|q
 .obtain⟨g,p⟩:=t5 r q;have o:keyKind' O.toArray=pure oneType':=by
   rcases O with _|⟨x,_|⟨y,z⟩⟩
   .exact absurd m (by simp)
   .exact absurd m (by simp)
   .exact keyKind_ints p
  rw[o];exact wpAny_pure ⟨rfl,λi j b C e c=>Cs r q e c⟩
 .obtain⟨fs,f,h,a⟩:=tY r q;refine kat_kind (T:=.type "int") f (by rw[h,eU r];lia) (λv n=>?_) rfl ⟨rfl,λi j b C e c=>xh r (CO (λ_=>rfl) q) e c⟩;obtain⟨i,t,rfl⟩:=a v n;exact PySem.W.Looks.of_peek (K:=[]) (λ_ _ z=>nomatch z) rfl
 .obtain⟨fs,f,h,a⟩:=tZ r q;refine kat_kind (T:=.type "str") f (by rw[h,eU r];lia) (λv n=>?_) rfl ⟨rfl,λi j b C e c=>xh r (CO (λ_=>rfl) q) e c⟩;obtain⟨i,t,rfl⟩:=a v n;exact PySem.W.Looks.of_peek (K:=[]) (λ_ _ z=>nomatch z) rfl
end
section
variable{X:Cx}
theorem Ao:∀{es:List P}{s:List V}{j:LV},cC K F H es s->aM s j->es.all B8=true->Paired FV es j
 | [],_,_,h,r,_=>by cases (show _=([]:List V) from h);cases r;exact .nil
 |e::es,_,_,h,r,q=>by
  obtain⟨y,x,rfl,p,pr⟩:=h;rw[eT,Bool.and_eq_true]at q;cases r with
  |cons v1 v2=>
   cases e with
   |int i=>cases (show y=.int i from p);obtain⟨t,rfl⟩:=v1;exact .cons (.inl ⟨i,t,rfl,rfl⟩) (Ao pr v2 q.2)
   |str i=>cases (show y=.str i from p);obtain⟨t,rfl⟩:=v1;exact .cons (.inr ⟨i,t,rfl,rfl⟩) (Ao pr v2 q.2)
   |_=>exact nomatch q.1
theorem zU(I:Inv X B N H s):∀{b:List P}{m:List V}{f:LV},cC X.K F H b m->aM m f->b.all (λd=>(isInt d ||lO d) ||n_ d)=true->Paired (KV s.heap) b f
 | [],_,_,h,r,_=>by cases (show _=([]:List V) from h);cases r;exact .nil
 |d::b,_,_,h,r,q=>by
  obtain⟨x,D,rfl,p,g⟩:=h;rw[eT,Bool.and_eq_true]at q;cases r with
  |cons c S=>
   refine .cons ?_ (zU I g S q.2);cases d with
   |int i=>cases (show x=.int i from p);obtain⟨t,rfl⟩:=c;exact .inl ⟨i,t,rfl,rfl⟩
   |tup es=>
    obtain⟨a,E,rfl,C,K⟩:=p;cases c;obtain⟨j,A,⟨o,w,v,n,hd⟩,_⟩:=I.tuple C.sq;refine .inr ⟨es,a,o,n,j,rfl,rfl,w,v,hd,?_⟩;have z:es.all B8=true:=by
     have k:=q.1;cases es with
     |nil=>rfl
     |cons e es=>
      have l:∀x:P,isInt x=true->B8 x=true:=λx h=>by cases x<;>first|rfl|cases h
      rw[jv]at k;rcases k with k|k
      .have y:(e::es).all isInt=true:=by simpa[isInt,lO] using k
       exact bc.mpr λx u=>l x (bc.mp y x u)
      .cases e with
       |str x=>rw[eT,Bool.and_eq_true];exact⟨rfl,k⟩
       |_=>exact nomatch k
    exact Ao K A z
   |_=>exact nomatch q.1
theorem o0(q:sortable r=true):r.all (λd=>(isInt d ||lO d) ||n_ d)=true:=by
 unfold sortable at q;rw[jv,jv]at q;refine bc.mpr λx h=>?_
 rcases q with (q|q)|q
 .rw [bc.mp q x h];rfl
 .rw [bc.mp q x h,Bool.or_true];rfl
 .rw [bc.mp q x h,Bool.or_true]
theorem Gu(r:aM u v)(i:Nat):RelV (u.getD i .non) (v.getD i Value.none):=by
 rw[iQ,iQ];cases e:u[i]? with
 |none=>
  have l:=eU r;have:v[i]? = none:=by rw[List.getElem?_eq_none_iff]at e ⊢;lia
  rw[this];rfl
 |some x=>obtain⟨y,h,a⟩:=fL r e;rw[h];exact a
theorem wg(r:aM u v):∀p:List Nat,aM (p.map λi=>u.getD i .non) (p.map λi=>v.getD i Value.none)
 | []=>.nil
 |i::p=>.cons (Gu r i) (wg r p)
theorem y8(r:cC K F H v u):∀p:List Nat,cC K F H (p.map λi=>v.getD i .non) (p.map λi=>u.getD i .non)
 | []=>rfl
 |i::p=>by
  refine⟨_,_,rfl,?_,y8 r p⟩;show RP K F H (v.getD i P.non) (u.getD i V.non);rw[iQ,iQ];cases e:v[i]? with
  |none=>
   have l:=r.length;have:u[i]? = none:=by rw[List.getElem?_eq_none_iff]at e ⊢;lia
   rw[this];rfl
  |some d=>obtain⟨x,h,a⟩:=r.get e;rw[h];exact a
theorem p_{r:Heap}{A:Nat}(I:Inv X B N H s)(y:s.heap.Ns X.env.locals m)(a:r.Ns X.env.locals m)(k:∀b o,b≠X.env.locals->s.heap.get? b=some o->r.get? b=some o):Inv X B N H { s with heap:=r,toks:=A }:=by
 have L:∀b u,H b=some u->b≠X.env.locals:=λb u e z=>by rw[z,I.free]at e;cases e
 refine I.step (g':=s.gens) (d':=s.drawn) (ch:=[]) (λ_ z=>nomatch z) (λb o h _ _ e _=>k b o h e) (λb o h _ _ e _=>⟨o.slots,k b o h e⟩) (λ_ _ _ _ n=>n) (λb o _ e=>?_) (λ_ _ e=>e) (λ_ _ _ e=>e) (λb G e=>⟨#[],by rw[e];simp⟩) (λK l=>?_) (λb u e=>?_) I.bare
 .by_cases h:b=X.env.locals
  .subst h;obtain⟨P,_,_,w,_⟩:=a;exact⟨P,w⟩
  .exact⟨o,k b o h e⟩
 .obtain⟨o,es,C,S,hd,D,t⟩:=y;obtain⟨E,i,g,f,d,F,p⟩:=l;rw[S]at f;cases f;rw[hd]at d;cases d;have:m=K:=funext λx=>(t x).symm.trans (p x);rw[<- this];exact a
 .refine (I.hok b u e).stay (λc v j q=>k c v ?_ q) (λ_ q=>q) λ_ _ q=>q;rcases j with z|z
  .rw [z];exact L b u e
  .exact L c _ z
theorem tW(k:∀b o,r.get? b=some o->h.get? b=some o)(F:Fr r L v m)(N:News r L v (j6 r h L)):∀b o,b≠L->h.get? b=some o->v.get? b=some o:=λb o x e=>by
 cases q:r.get? b with
 |some u=>have:=k b u q;rw[e]at this;cases this;exact F.keep b _ q
 |none=>exact(N (b,o) (tR x q e)).1
theorem vn{P:Program}{w:World}{H:Hp}{h:Heap}{a:Addr}{o:HO}(x:cf P w H h a o):∃u,h.get? a=some u:=by
 cases o with
 |lst s=>obtain⟨_,_,_,_,e⟩:=x;exact⟨_,e⟩
 |tup s=>obtain⟨_,_,_,_,e,_⟩:=x;exact⟨_,e⟩
 |dK k=>obtain⟨_,_,_,_,_,_,_,e,_⟩:=x;exact⟨_,e⟩
 |dT k=>obtain⟨_,_,_,_,_,_,_,e,_⟩:=x;exact⟨_,e⟩
 |set S n=>obtain⟨_,_,_,_,e,_⟩:=x;exact⟨_,e⟩
 |ins C d fs=>obtain⟨_,_,_,e,_⟩:=x;exact⟨_,e⟩
 |own y=>exact x
 |xd fs=>obtain⟨_,⟨_,_,_,e,_⟩,_⟩:=x;exact⟨_,e⟩
 |rng lo i=>obtain⟨_,_,_,e⟩:=x;exact⟨_,e⟩
 |frz b u=>exact⟨_,x.1⟩
 |tbl p=>exact⟨_,(show h.get? a=some _ from x)⟩
 |met f y=>exact⟨_,(show h.get? a=some _ from x)⟩
 |ext c=>exact x.2.1
theorem vG{B:PN}{N:L2.St}{H:Hp}{s:Shared}{D:Addr}(I:Inv X B N H s)(h:s.heap.get? D=none):H D=none:=by
 cases q:H D with
 |none=>rfl
 |some v=>obtain⟨u,e⟩:=vn (I.hok D v q);rw[h]at e;cases e
theorem xX{B:PN}{N:L2.St}{H:Hp}{s:Shared}{t:Heap}{S:Nat}{m:SV}{D:Addr}{u:HO}(I:Inv X B N H s)(y:s.heap.Ns X.env.locals m)(h:t.Ns X.env.locals m)(k:∀b o,b≠X.env.locals->s.heap.get? b=some o->t.get? b=some o)(j:s.heap.get? D=none)(i:cf X.prog X.w (bW H D u) t D u):Inv X B N (bW H D u) { s with heap:=t,toks:=S }:=by
 have f:=vG I j;have J:∀b o,s.heap.get? b=some o->b≠D:=λb o e z=>by rw[z,j]at e;cases e
 have r:∀b v,H b=some v->b≠D:=λb v e z=>by rw[z,f]at e;cases e
 have F:=p_ (A:=S) I y h k;refine I.step (g':=s.gens) (d':=s.drawn) (ch:=[]) (λ_ z=>nomatch z) (λb o L _ _ e _=>k b o L e) (λb o L _ _ e _=>⟨o.slots,k b o L e⟩) (λb o _ e n=>(ao (J b o e)).trans n) (λb o _ e=>?_) (λb O e=>(ao (r b _ e)).trans e) (λb o v e=>(ao (r b _ e)).trans e) (λb U e=>⟨#[],by rw[ao (r b _ e),e];simp⟩) (λG A=>?_) (λb v e=>?_) I.bare
 .by_cases L:b=X.env.locals
  .subst L;obtain⟨M,_,_,g,_⟩:=h;exact⟨M,g⟩
  .exact⟨o,k b o L e⟩
 .obtain⟨o,es,Q,C,hd,R,p⟩:=y;obtain⟨T,P,K,a,d,E,w⟩:=A;rw[C]at a;cases a;rw[hd]at d;cases d;have:m=G:=funext λx=>(p x).symm.trans (w x);rw[<- this];exact h
 .by_cases l:b=D
  .subst l;rw[aE]at e;cases e;exact i
  .rw [ao l]at e;exact(F.hok b v e).stay (λ_ _ _ q=>q) (λc q=>(ao (r c _ q)).trans q) λc O q=>(ao (r c _ q)).trans q
theorem sM:dU X (.builtin "sorted") (λxs H Q=>∃F a A K b,xs=[.ref a]/\(ie X.K H a A\/sS X.K H a A)/\cC X.K F H K A/\sortable K=true/\ma K=some b/\∀l z,H l=none->cC X.K F H b z->Q (.ref l) (bW H l (.lst z))):=by
 intro B s N H xs us Q I r h;obtain⟨F,a,A,K,b,rfl,J,L,hs,k,q⟩:=h;obtain⟨u,rfl,rx⟩:=vals1 r;cases rx;obtain⟨m,O⟩:=I.fr;have w:∀(T:String)(hT:T="list"\/T="tuple")(t:LV)(o:Obj)(n:Nat),aM A t->s.heap.get? a=some o->o.cls=.type T->o.data=.seq t.toArray n->wpAny (model X.prog X.w) X.A (call (.builtin "sorted") [.ref a]) (EP X B N Q) X.xe s:=by
  intro T hT t o n M G E hd;have W:=L.length;have Y:=eU M;have S:K.length < 64:=by
   unfold ma at k;split at k
   .lia
   .split at k
    .lia
    .cases k
  have C:∀(z:List V)(j:LV)(D:Addr)(f:Heap)(c:Nat),aM z j->cC X.K F H b z->j.length≤64->s.heap.get? D=none->Fr X.base X.env.locals f m->News X.base X.env.locals f ((D,seqObj "list" j.toArray c)::j6 X.base s.heap X.env.locals)->EP X B N Q (.ref D) { s with heap:=f }:=
   λz j D f c vz rz hz P d y=>⟨.ref D,_,xX (S:=s.toks) I O.ns d.ns (tW I.bk d λp Z=>y p (.tail _ Z)) P (show cf X.prog X.w _ f _ (.lst z) from ⟨by rw[eU vz,lm];lia,j,c,vz,(y _ (.head _)).1⟩),rfl,q _ z (vG I P) rz⟩
  refine Bn O (zH (g:=X.base)) hT G E hd (by lia) (λfew D f c P d y=>?_) λtwo D e f P ne d y=>?_
  .unfold ma at k;rw[if_pos (by lia)]at k;cases k;exact C A t D f c M L (by lia) P d y
  .unfold ma at k;rw[if_neg (by lia),if_pos S]at k;obtain⟨p,ep,k⟩:=Option.bind_eq_some_iff.mp k;split at k;case isFalse=>cases k
   rename_i ps;cases k;have I1:Inv X B N H { s with heap:=f }:=p_ (A:=s.toks) I O.ns d.ns (tW I.bk d λp Z=>y p (.tail _ Z));have U:Cd (jG K) (kas_sort t.length)=some p:=by rw[<- Y,<- W];exact ep
   refine wpAny_mono (B4 (s:={ s with heap:=f }) (zU I1 L M (o0 hs)) hs two) (λκ v hv=>?_) λ_ _ x=>x;obtain⟨rfl,R⟩:=hv;exact Au (a:=p) (r:=λp u=>PySem.W.KasFin X.base X.env.locals m D e (p.toList.map λi=>t.getD i Value.none) (λu=>EP X B N Q (.ref D) u) u) R (PySem.W.KasFin.intro d y (.head ne) λh2 c F2 N2=>C _ _ D h2 c (wg M p.toList) (y8 L p.toList) (by rw[a7,nz];lia) P F2 N2) _ U
 rcases J with J|J
 .obtain⟨t,r',pl,hz⟩:=I.list J;obtain⟨o,G,E,n,hd⟩:=pl.isList;exact w "list" (.inl rfl) t o n r' G E hd
 .obtain⟨t,r',⟨o,G,E,n,hd⟩,hz⟩:=I.tuple J;exact w "tuple" (.inr rfl) t o n r' G E hd
noncomputable def CF:List D->Option (List P)
 | []=>some []
 | .p v::r=>(CF r).map (v::·)
 | .ref _::_=>none
theorem yJ:∀{d:List D}{O:List P},CF d=some O->d=O.map .p
 | [],O,h=>by cases h;rfl
 | .p v::r,O,h=>by
  cases e:CF r with
  |none=>simp only[CF,e]at h;cases h
  |some w=>simp only[CF,e]at h;cases h;rw[yJ e];rfl
 | .ref _::_,O,h=>by cases h
theorem CJ:∀{O:List P}{s:List V},dt K F H m (O.map .p) s->cC K F H O s
 | [],_,h=>h
 |_::_,_,h=>by obtain⟨x,r,e,a,n⟩:=h;exact⟨x,r,e,a,CJ n⟩
noncomputable def Bq:P->Option (List P)
 | .lst x=>some x
 | .ro x=>some x
 | .tup x=>some x
 |_=>none
def xA:D->aD->Option (List P)
 | .p v,_=>Bq v
 | .ref i,S=>match S[i]? with
  |some (.lst d)=>CF d
  |some (.fz v)=>Bq v
  |_=>none
def pL(r:EE):EV:=λL S=>aG (r L S) λd h=>match xA d h with
 |some x=>(jS x).map λv=>(v,h)
 |none=>none
theorem wv(p:RP K F H w v)(h:Bq w=some u):∃a y,v=.ref a/\(ie K H a y\/sS K H a y)/\cC K F H u y:=by
 cases w with
 |tup d=>obtain⟨a,y,rfl,t,r⟩:=p;cases h;exact⟨a,y,rfl,.inr t.sq,r⟩
 |lst d=>obtain⟨a,y,rfl,t,r⟩:=p;cases h;exact⟨a,y,rfl,.inl t.sq,r⟩
 |ro d=>obtain⟨a,y,rfl,t,r⟩:=p;cases h;exact⟨a,y,rfl,.inl t.sq,r⟩
 |_=>cases h
theorem Br(r:Rel K F H m S)(p:RD K F H m u v)(h:xA u S=some l):∃a y,v=.ref a/\(ie K H a y\/sS K H a y)/\cC K F H l y:=by
 cases u with
 |p w=>exact wv p h
 |ref i=>
  obtain⟨a,rfl,x⟩:=p;simp only[xA]at h;split at h
  .rename_i d es;obtain⟨y,e,s⟩:=r.obj i a _ x es;rw[yJ h]at s;exact⟨a,y,rfl,.inl (ie.of e),CJ s⟩
  .rename_i w es;exact wv (r.obj i a _ x es) h
  .cases h
theorem yD(i:Gl X "sorted")(j:X.mg "sorted"=none)(g:PE X e (tE X.K Y))(s:starEach [e] X.env=[(false,eval e X.env)]:=by rfl):PE X (.Call (.Name "sorted" p) [e] [] J) (tV X.K (pL Y)):=
 (jD sM i j PyProof.Rows.boot_sorted (dR g gm (by rw[s];rfl)) (by decide) (by decide) (by rw[s];rfl) rfl).imp' λN H Q h=>by
  obtain⟨F,m,L,S,d,G,r,l,q,k⟩:=h;obtain⟨x,c,t,q⟩:=ai q;refine⟨F,m,L,S,x,c,r,l,t,λv b K E C n P=>?_⟩;split at q
  .rename_i f w;unfold jS at q;split at q
   .rename_i s;cases o:ma f with
    |none=>rw[o]at q;cases q
    |some u=>rw[o]at q;cases q;obtain⟨a,D,rfl,y,A⟩:=Br n P w;exact⟨b,a,D,f,u,rfl,y,A,s,o,λz I h B=>k _ _ K _ (C.trans (cy h).stp) (n.grow (cy h)) (.newLst h B)⟩
   .cases q
  .cases q
end
noncomputable def Mw(K:FG)(e:Bool)(a:Addr):It:=if e=true then Cy K a else JN K a
inductive tIOI(K:FG)(en:Bool)(fe:EE)(σ:L2.St)(H:Hp)(R:It->Hp->Prop):Prop
 |mk (F:Aa) (m:List Addr) (L:Lc) (S:aD) (j:Nat) (S':aD) (ds:List D) (h0_:Rel K F H m S) (h1_:RL K F H m σ L) (h2_:fe L S=some (.ref j,S')) (h3_:S'[j]? = some (.lst ds)) (h4_:∀a F' m' H',Stp F m H F' m' H'->Rel K F' H' m' S'->m'[j]? = some a->R (Mw K en a) H'):tIOI K en fe σ H R
section
variable{X:Cx}{J:Pos}
theorem vY:dU X (.type "range") (λx H Q=>∃j:Int,x=[.int j]/\∀r,H r=none->Q (.ref r) (bW H r (.rng 0 j))):=by intro B s N H x n Q I r h;obtain⟨j,rfl,q⟩:=h;obtain⟨u,rfl,a⟩:=vals1 r;obtain⟨t,rfl⟩:=a;refine call_range_1 ?_;exact⟨.ref s.heap.objs.size,_,I.laid (o:=.rng 0 j) (λb o e=>Heap.get?_push_of_some _ e) (Nat.le_refl _) ⟨_,_,_,Heap.get?_push_size _ rfl⟩,rfl,q _ (I.hok.fresh (Nat.le_refl _))⟩
theorem pV:∀{s:List d}{e:List q},s.length=e.length->(∀(i:Nat) x y,s[i]? = some x->e[i]? = some y->R x y)->Paired R s e
 | [],[],_,_=>.nil
 | [],_::_,h,_=>by simp at h
 |_::_,[],h,_=>by simp at h
 |x::s,y::e,h,k=>.cons (k 0 x y rfl rfl) (pV (by simpa using h) λi a b n f=>k (i+1) a b (by simpa using n) (by simpa using f))
theorem vx(h:ItemsOf (λi v=>∃t,v=Value.int (0+i * 1) t) r n):aM ((List.range n).map λ(i:Nat)=>V.int (i:Int)) r.toList:=by
 obtain⟨z,f⟩:=h;refine pV (by simp[z]) λi x y a c=>?_;rw[List.getElem?_map]at a;cases e:(List.range n)[i]? with
 |none=>rw[e]at a;cases a
 |some k=>
  rw[e]at a;cases a;have b:k=i:=by have:=List.getElem?_eq_some_iff.mp e;obtain⟨m,s⟩:=this;simpa using s.symm
  subst b;obtain⟨t,rfl⟩:=f k y (by simpa using c);exact⟨t,by simp⟩
theorem uG(a:X.calm=true):dU X (.type "list") (λk H Q=>∃r j,k=[.ref r]/\H r=some (.rng 0 j)/\j.natAbs < 1000000/\∀l,H l=none->Q (.ref l) (bW H l (.lst ((List.range j.toNat).map λ(i:Nat)=>V.int (i:Int))))):=by
 intro B s N H k z Q I r h;obtain⟨d,j,rfl,p,y,q⟩:=h;obtain⟨u,rfl,w⟩:=vals1 r;cases w;obtain⟨t,u,v,o⟩:=I.hok d _ p;refine call_list_range (n:=j.toNat) (I.ok.hd a) o (small_one (by lia) (by lia) (by lia) (by lia)) (by rw[rangeSize_one];split<;>lia) (by lia) λf g x c m e b=>?_
 exact⟨.ref s.heap.objs.size,_,I.laid (t':=g) m (Nat.le_refl _) (show cf X.prog X.w _ f _ (.lst _) from ⟨by rw[a7,List.length_range];exact aU (by lia:j.toNat≤1000000) (by decide),x.toList,c,vx b,by simpa using e⟩),rfl,q _ (I.hok.fresh (Nat.le_refl _))⟩
def Fw(a:EV):EV:=λL S=>aG (a L S) λv h=>match v with
 | .int j=>if decide (j.natAbs < 1000000)=true then some (.lst (intsFrom 0 j.toNat),h) else none
 |_=>none
theorem tB:∀s:List Nat,cC K F H (s.map λ(i:Nat)=>P.int (0+(i:Int))) (s.map λ(i:Nat)=>V.int (i:Int))
 | []=>rfl
 |i::s=>⟨_,_,rfl,by show V.int _=V.int _;rw[eD],tB s⟩
theorem A1(h:X.calm=true)(K:Gl X "list")(A:X.mg "list"=none)(g:Gl X "range")(s:X.mg "range"=none)(y:PE X a (tV X.K C))(t:starEach [a] X.env=[(false,eval a X.env)])
  : PE X (.Call (.Name "list" u) [.Call (.Name "range" p2) [a] [] c2] [] c1) (tV X.K (Fw C)):=
 (jZ (uG h) K A uP (dR (jZ vY g s boot_range (dR y gm (by rw[t];rfl)) (by decide) (by decide) (by rw[t];rfl) rfl) gm rfl) (by decide) (by decide) rfl rfl).imp' λN H Q e=>by
  obtain⟨F,m,L,S,d,G,r,l,q,k⟩:=e;obtain⟨x,w,i,q⟩:=ai q;refine⟨F,m,L,S,x,w,r,l,i,λv f B b E D u=>?_⟩;cases x with
  |int j=>
   dsimp only at q;split at q
   .rename_i o;have P:j.natAbs < 1000000:=aS o;cases q;cases (show v=.int j from u);refine⟨j,rfl,λp n=>⟨p,j,rfl,aE,P,λz e=>?_⟩⟩;have c:Grow f b f (bW b p (.rng 0 j)):=cx n;exact k _ _ B _ (E.trans (c.stp.trans (cy e).stp)) ((D.grow c).grow (cy e)) (.newLst e (tB _))
   .cases q
  |_=>cases q
end
section
variable{X:Cx}{J:Pos}
theorem xw{I:Program}{w:World}{A:Around}{E:VP}{s:Shared}{t l:Addr}{i:Array Value}{v u:Value}{lo x:Option Int}{Q:VP}(h:IsTup s.heap t i)(a:s.heap.IsSliceOf l v u .none)(p:IsPart v lo)(b:IsPart u x)
  (k:HT.eM i.size 0 lo=0) (f:HT.eM i.size i.size x=i.size) (q:Q (.ref t) s):wpAny (model I w) A (getItem (.ref t) (.ref l)) Q E s:=by
 have T:s.TypeIs (.ref l) "slice":=by obtain⟨o,e,n,_⟩:=a;exact⟨o,e,n⟩
 unfold getItem;try with_reducible refine wpAny_holding ?_
 first|refine wpAny_bind (wpAny_pure ?_)|skip
 refine wpAny_bind (wpAny_sequenceKey h.typeIs (by decide) ?_);refine wpAny_bind (wpAny_callSpecial?_slot (name:=Str.ofString "__getitem__") h.typeIs kr (wpAny_call_entry kr h.typeIs entry_tuple_getitem ?_ (args_tuple_getitem _ _)));show wpAny _ _ (Builtin.Tuple.tupleItemsOf (.ref t) >>= _) _ _ s;refine wpAny_bind (tupleItemsOf_ h (wpAny_bind (kO T ?_)));rw[if_pos (by decide)];refine wpAny_bind (HT.iu a p b ?_);rw[k,f];have y:((((0:Nat):Int) == 0 && (1:Int) == 1 && (i.size-0) == i.size)=true):=by simp
 show wpAny _ _ (if ((((0:Nat):Int) == 0 && (1:Int) == 1 && (i.size-0) == i.size)=true) then _ else _) _ _ s;rw[if_pos y];refine wpAny_bind (wpAny_bind (kO h.typeIs ?_));refine wpAny_pure ?_;rw[if_pos (by rfl)];first
  |exact wpAny_bind (wpAny_pure (wpAny_pure ⟨_,rfl,wpAny_pure q⟩))
  |exact wpAny_bind (wpAny_rule (wpAny_pure ⟨_,rfl,wpAny_pure q⟩))
  |exact wpAny_pure ⟨_,rfl,wpAny_pure q⟩
theorem yY:Dc X (λx lo n H Q=>∃a e,x=.ref a/\sS X.K H a e/\HT.eM e.length 0 lo=0/\HT.eM e.length e.length n=e.length/\Q (.ref a) H):=by
 intro B s N H x v w g lo n d Q I m b p u h;obtain⟨a,e,rfl,c,k,f,q⟩:=h;cases m;obtain⟨i,r,t,_⟩:=I.tuple c;have l:i.toArray.size=e.length:=by rw[List.size_toArray];exact r.length.symm
 exact⟨"tuple",_,kr.lookup,t.typeIs,xw t b p u (by rw[l];exact k) (by rw[l];exact f) ⟨.ref a,H,I,rfl,q⟩⟩
def AC:P->Option Int->Option Int->Option P
 | .tup s,lo,h=>some (.tup (cut s lo h))
 |x,lo,h=>M0 x lo h
def jB(a:EV)(lo n:EO):EV:=λL S=>aG (a L S) λx h=>aG (lo L h) λi e=>aG (n L e) λj s=>(AC x i j).map λv=>(v,s)
theorem J3{e:Expr}{lo A:Option Expr}{C:EV}{P K:EO}{J p2:Pos}(V:PE X e (tV X.K C))(Y:PO X lo (tO X.K P))(W:PO X A (tO X.K K)):PE X (.Subscript e (.Slice lo A none p2) J) (tV X.K (jB C P K)):=
 (zq (Bo.or (DQ.or yY)) V Y W).imp' λN H Q Z=>by
  obtain⟨F,m,L,S,d,S',r,l,q,k⟩:=Z;obtain⟨x,z,O,q⟩:=ai q;obtain⟨i,o,R,q⟩:=ai q;obtain⟨j,M,T,q⟩:=ai q;refine⟨F,m,L,S,x,z,r,l,O,λv D m1 H1 g r1 p1=>?_⟩;refine⟨D,m1,L,z,i,o,r1,l.mono g,R,λE m2 H2 y r2=>?_⟩;refine⟨E,m2,L,o,j,M,r2,(l.mono g).mono y,T,λG b I B c=>?_⟩;have u:=RP.mono B (RP.mono y p1);have w:=g.trans (y.trans B);cases x with
  |lst f=>cases q;obtain⟨a,s,rfl,t,n⟩:=u;exact .inl ⟨a,s,rfl,t.sq,λp h=>k _ _ b _ (w.trans (cy h).stp) (c.grow (cy h)) (.newLst h (n.cut i j))⟩
  |ro f=>cases q;obtain⟨a,s,rfl,t,n⟩:=u;exact .inl ⟨a,s,rfl,t.sq,λp h=>k _ _ b _ (w.trans (cy h).stp) (c.grow (cy h)) (.newLst h (n.cut i j))⟩
  |tup f=>
   obtain⟨a,s,rfl,t,n⟩:=u;cases q;by_cases hw:HT.eM s.length 0 i=0/\HT.eM s.length s.length j=s.length
   .have U:cut f i j=f:=by
     unfold cut;rw[n.length,hw.1,hw.2,mX,Nat.sub_zero,<- n.length,qB]
    rw[U]at k;exact .inr (.inr ⟨a,s,rfl,t.sq,hw.1,hw.2,k _ G b I w c ⟨a,s,rfl,t,n⟩⟩)
   .exact .inr (.inl ⟨a,s,rfl,t.sq,hw,λp h=>k _ _ b _ (w.trans (cx h).stp) (c.grow (cx h)) (.newTup h (n.cut i j))⟩)
  |_=>cases q
abbrev bS:List P->Option P:=jT
variable{e:Expr}{es:Ab}{fs:gC}{p:Pos}
theorem Dn(g:Gl X "int")(m:X.mg "int"=none)(a:PA X (e::es) (oY X.K fs))(x:starEach (e::es) X.env=(false,eval e X.env)::starEach es X.env)(h:(backTo J (starEach es X.env)).any (·.1)=false) :
  PE X (.Call (.Name "int" p) (e::es) [] J) (tV X.K (ah bS fs)):=u1 Co g m PyProof.Rows.boot_int a (by decide) (by decide) x h
inductive PEs(X:Cx):Ab->List EV->Prop
 |nil:PEs X [] []
 |cons {e es f fs}:PE X e (tV X.K f)->PEs X es fs->PEs X (e::es) (f::fs)
def wk(a b c:EV):EV:=λL S=>aG (a L S) λd h=>aG (b L h) λy x=>aG (c L x) λz e=>match d with
 | .dct s O=>match cj y with
  |some k=>some ((bG k s O).getD z,e)
  |none=>none
 |_=>none
theorem pI:∀{k:List (bz×V)}{d:List P},cC K F H d (k.map (·.2))->bG u (k.map (·.1)) d=none->fY k u=none
 | [],d,r,h=>rfl
 |(s,v)::k,[],r,h=>by have:=r.length;simp at this
 |(s,v)::k,b::d,r,h=>by
  obtain⟨x,m,e,p,n⟩:=r;rw[List.map_cons]at e;injection e with c f;simp only[List.map_cons,bG]at h;by_cases a:s=u
  .rw [if_pos a]at h;cases h
  .rw [if_neg a]at h;rw[<- f]at n;rw[fX (p:=(s,v)) a];exact pI n h
theorem Do(hu:X.A.units+1 < cLine)(ho:PE X o (tV X.K T))(ha:PE X a (tV X.K C))(hb:PE X b (tV X.K U))(m:M2 X o "get" ap a b cp):PE X (.Call (.Attribute o "get" ap) [a,b] [] cp) (tV X.K (wk T C U)):=
 (zy hu ho ha hb m).imp' λN H Q hz=>by
  obtain⟨F,m,L,S,d,S',r,l,q,k⟩:=hz;obtain⟨x,P,R,q⟩:=ai q;obtain⟨y,A,V,q⟩:=ai q;obtain⟨z,M,W,q⟩:=ai q;refine⟨F,m,L,S,x,P,r,l,R,λv I m1 H1 j r1 p1=>?_⟩;cases x with
  |dct ks O=>
   obtain⟨a,s,rfl,g,B,Y,ra⟩:=id p1;refine⟨a,rfl,.inl ⟨s,.inl B⟩,?_⟩;refine⟨I,m1,L,P,y,A,r1,l.mono j,V,λvy J m2 H2 f r2 p2=>?_⟩;refine⟨J,m2,L,A,z,M,r2,(l.mono j).mono f,W,λvz K D t c E p3=>?_⟩;have h:t a=some (.dK s):=(f.trans c).frk _ _ g B;have e:=cC.mono c (cC.mono f ra);have py:=RP.mono c p2;dsimp only at q;split at q
   .rename_i i p;cases q;have u:=gS p py;subst u Y;have G:=j.trans (f.trans c);cases n:bG i (s.map (·.1)) O with
    |none=>have hm:=pI e n;refine⟨none,by rw[<- hm];exact ja.k h,?_⟩;rw[n]at k;exact k vz K D t G E p3
    |some w=>obtain⟨v,Z,h2⟩:=lE e n;refine⟨some v,by rw[<- Z];exact ja.k h,?_⟩;rw[n]at k;exact k v K D t G E h2
   .cases q
  |_=>cases q
def I0(w:World):List DictEntry->List (Str×P)->Prop
 | [],[]=>True
 |e::es,(k,p)::r=>(∃t,e.key=.str k t)/\e.hash=hashStr w k/\(∃v,RelV v e.val/\∀K F H,RP K F H p v)/\I0 w es r
 |_,_=>False
def Lu(w:World)(K:FG)(m:SV)(x:Str)(k:List (Str×P)):Prop:=
 ∃a o es e,m x=some (.ref a)/\K.lookup a=some o/\o.ExactDict/\o.data=.dict es e/\I0 w es.toList k/\(k.map (·.1)).Nodup
end
noncomputable def GI:List bz->List P->Option (List (Str×P))
 | [],[]=>some []
 | .inr k::s,v::O=>(GI s O).map λr=>(k,v)::r
 |_,_=>none
noncomputable def Ad:P->Bool
 | .dct _ _=>true
 |_=>false
def lj(w:World)(K:FG)(m:SV)(x:Str)(v:P):Prop:=(Ad v=false->wb K m x v)/\∀s O,v=.dct s O->∃k,GI s O=some k/\Lu w K m x k
variable{x:Str}
theorem lj.plain(h:wb K r x v)(a:Ad v=false):lj w K r x v:=⟨λ_=>h,λk O e=>by subst e;cases a⟩
end Ev
namespace Ev
open PySem PySem.Spec PyProof.Rows L2
theorem ub(f:Nat->β->Sem (ForInStep β))(I:Nat->β->Shared->Prop)(Q:β->Shared->Prop)(k:Nat)
  (turn:∀i b s,i < k->I i b s->wpAny M A (f i b) (λr s'=>match r with | .yield b'=>I (i+1) b' s' | .done b'=>Q b' s') E s)
  (fin:∀b s,I k b s->Q b s) (b:β) (h:I 0 b s):wpAny M A (forIn [0:k] b f) Q E s:=by
 rw[Std.Legacy.Range.forIn_eq_forIn_range'];refine wpAny_forIn_list f (λbO b s=>∃i,bO=List.range' i (k-i)/\i≤k/\I i b s) Q (λx bO b s ⟨i,e,hi,hI⟩=>?_) (λb s ⟨i,e,hi,hI⟩=>?_) _ b ⟨0,by simp[Std.Legacy.Range.size],Nat.zero_le _,h⟩
 .obtain⟨m,hm⟩:∃m,k-i=m+1:=by
   cases q:k-i with
   |zero=>rw[q]at e;simp at e
   |succ m=>exact⟨m,rfl⟩
  rw[hm,qO]at e;injection e with e1 e2;subst e1;refine wpAny_mono (turn x b s (by lia) hI) (λr s' hr=>?_) λ_ _ z=>z;cases r with
  |done b'=>exact hr
  |yield b'=>exact⟨x+1,by rw[e2];congr 1;lia,by lia,hr⟩
 .have:k-i=0:=by
   cases q:k-i with
   |zero=>rfl
   |succ m=>rw[q,qO]at e;cases e
  have:i=k:=by lia
  subst this;exact fin b s hI
section
open PySem.SeqAt PySem.MeetsSeq
open PySem.AutoSeq1 (wpAny_loadPart')
theorem xx(l:Addr)(items:Array Value)(n:Nat)(dd:Option Addr)(sl:Array (OV))(x:Value)(e:Value->Bool)(j:Nat)(hj:j < items.size)
  (hit:e items[j]=true) (hno:∀m (hm:m < items.size),m < j->e items[m]=false) :
  Meets (Builtin.«tuple.index» ⟨[.ref l,x],[]⟩)
   (λA R s=>s.heap.get? l=some { cls:=.type "tuple",dict:=dd,data:=.seq items n,slots:=sl }/\(∀y,y ∈ items->EqAt A.in1 s y x (e y))/\R (.ok (.ret (.int j s.toks))) { s with toks:=s.toks+1 }):=
 .of_wp λprog w A R s h=>by
  obtain⟨hp,g,d,tk,os⟩:=s;obtain⟨hl,he,h⟩:=h
  wp_walk using wpAny_loadPart' hl,ub _ (λi b s'=>i≤j/\b.1=none/\s'=⟨hp,g,d,tk,os⟩) _
  case turn=>
   rintro i b s' hi ⟨hij,hb,rfl⟩;have hi':i < items.size:=by lia
   rw[Array.getElem?_eq_getElem hi'];refine wpAny_bind (he _ (Array.getElem_mem hi') prog w _ _ ?_);by_cases hc:i=j
   .subst hc;rw[hit]
    wp_walk
    exact⟨_,rfl,h⟩
   .rw [hno i hi' (by lia)]
    wp_walk
    exact⟨by lia,rfl,rfl⟩
  case fin=>rintro b s' ⟨hij,_,_⟩;exact absurd hij (by lia)
  case h=>exact⟨Nat.zero_le _,rfl,rfl⟩
end
def kE(ps:List P)(y:P):Option Nat:=if (ps.all (bC 19) && bC 19 y)=true then (nV ps).findIdx? λz=>PyData.eqv z (pd y) else none
def oW(fa fb:EV):EV:=λL S=>aG (fa L S) λv x=>match v with
 | .lst ps=>aG (fb L x) λy h=>(kE ps y).map λ(i:Nat)=>(.int (i:Int),h)
 | .tup ps=>aG (fb L x) λy h=>(kE ps y).map λ(i:Nat)=>(.int (i:Int),h)
 |_=>none
section
variable{X:Cx}{pins:PN}{σ:L2.St}{H:Hp}{s:Shared}{F:Aa}{ps:List P}{y:P}{vy:V}{u:Value}{i:Nat}{Q:VK}{a:Addr}
theorem rH:∀qs:List P,(nV qs).length=qs.length
 | []=>rfl
 |q::qs=>by simp[nV,rH qs]
theorem Ah(j:X.A.units+64 < cLine)(I:Inv X pins σ H s)(d:RP X.K F H y vy)(g:RelV vy u)(e:kE ps y=some i){v:Array Value}{f:List Addr}(k:ReadsAll s.heap v.toList (nV ps) f) :
  ∃t:i < v.size,PyData.eqv (SeqAt.readOf s.heap v[i]) (pd y)=true/\(∀m (x:m < v.size),m < i->PyData.eqv (SeqAt.readOf s.heap v[m]) (pd y)=false)/\v.size=ps.length /\
   ∀z,z ∈ v->SeqAt.EqAt X.A.in1 s z u (PyData.eqv (SeqAt.readOf s.heap z) (pd y)):=by
 unfold kE at e;split at e;case isFalse=>cases e
 rename_i c;rw[Bool.and_eq_true]at c;obtain⟨bs,w⟩:=iw I 19 d g c.2;have l:=Hy c.1;have q:=hG 19 _ c.2;obtain⟨t,b,r⟩:=wc.mp e;have n:=SeqAt.readsAll_map _ _ _ l.1 k;have h:v.size=(nV ps).length:=by rw[<- n];simp
 have a:∀(m:Nat)(x:m < v.size),SeqAt.readOf s.heap v[m]=(nV ps)[m]'(h ▸ x):=λm x=>by
  have:(v.toList.map (SeqAt.readOf s.heap))[m]? = (nV ps)[m]?:=by rw[n]
  rw[List.getElem?_map,Array.getElem?_toList,Array.getElem?_eq_getElem x,dY (h ▸ x)]at this;simpa using this
 refine⟨by lia,?_,λm x p=>?_,by rw[h,rH],SeqAt.items_eqAt k w l.1 q.1 (by lia)⟩
 .rw [a];exact b
 .rw [a];simpa using r m p
theorem Ag(e:kE ps y=some i):ps.all (bC 19)=true:=by
 unfold kE at e;split at e
 .rename_i h;rw[Bool.and_eq_true]at h;exact h.1
 .cases e
theorem vX(P:X.A.units+64 < cLine)(I:Inv X pins σ H s)(p:RP X.K F H (.lst ps) (.ref a))(D:RP X.K F H y vy)(G:RelV vy u)(e:kE ps y=some i)(q:Q (.int i) H) :
  wpAny (model X.prog X.w) X.A (call (.builtin "list.index") [.ref a,u]) (EP X pins σ Q) X.xe s:=by
 have S:=Ag e;obtain⟨M,b⟩:=iw I 20 p (show RelV (.ref a) (.ref a) from rfl) (by simpa[bC] using S);rw[pd]at b;cases b with
 | @list l o J n _ c x k f w=>
  obtain⟨j,t,v,R,d⟩:=Ah P I D G e w;obtain⟨V,B,C,h⟩:=o;dsimp only at k f;subst k f;have O:ps.length≤sizeLine:=by obtain⟨L,W,m,K,E⟩:=p;cases m;obtain⟨z,A,U,r,N,_⟩:=I.lstM K.2;have T:=E.length;lia
  have g:sizeLine < 2 ^ 63:=by decide
  exact call_meets PySem.F.slot_list_index ⟨_,x,rfl⟩ PySem.F.entry_list_index (PySem.F.args_list_index_2 _ _) (SeqAt.list_indexAt a J n B h u _ i j (by lia) t v) ⟨x,d,⟨.int i,H,I.tok _,⟨_,rfl⟩,q⟩⟩
theorem uD(hu:X.A.units+64 < cLine)(I:Inv X pins σ H s)(px:RP X.K F H (.tup ps) (.ref a))(py:RP X.K F H y vy)(ru:RelV vy u)(e:kE ps y=some i)(q:Q (.int i) H) :
  wpAny (model X.prog X.w) X.A (call (.builtin "tuple.index") [.ref a,u]) (EP X pins σ Q) X.xe s:=by
 have ho:=Ag e;obtain⟨as,ra⟩:=iw I 20 px (show RelV (.ref a) (.ref a) from rfl) (by simpa[bC] using ho);rw[pd]at ra;cases ra with
 | @tuple l o vs n _ as' h1 h2 h3 h4=>obtain⟨hi,e1,e2,hz,eq⟩:=Ah hu I py ru e h4;obtain⟨oc,od,odt,osl⟩:=o;dsimp only at h2 h3;subst h2 h3;exact call_meets PySem.F.slot_tuple_index ⟨_,h1,rfl⟩ PySem.F.entry_tuple_index (PySem.F.args_tuple_index_2 _ _) (xx a vs n od osl u _ i hi e1 e2) ⟨h1,eq,⟨.int i,H,I.tok _,⟨_,rfl⟩,q⟩⟩
theorem Dr(hu:X.A.units+64 < cLine)(ho:PE X o (tV X.K fo))(he:PE X e (tV X.K fe))(hs:starEach [e] X.env=[(false,eval e X.env)])
  (g:attributeBase o "index" X.env (eval o X.env)=eval o X.env) (j:(M.endLine == c.line)=true):PE X (.Call (.Attribute o "index" M) [e] [] c) (tV X.K (oW fo fe)):=by
 intro pins s σ H Q I ⟨F,m,L,S,d,Y,r,l,q,k⟩;obtain⟨x,T,e1,q⟩:=ai q;refine wpAny_Call_method_late g (by rw[hs];rfl) j rfl (cV (ho pins s σ H (λv t=>∃f K,Stp F m H f K t/\Rel X.K f t K T/\RP X.K f t x v) I ⟨F,m,L,S,x,T,r,l,e1,λv f K t U r1 B=>⟨f,K,U,r1,B⟩⟩) λu U hz=>?_);obtain⟨v,t,W,ru,f,K,O,r1,B⟩:=hz;have w:∀(id:String)(ps:List P),aG (fe L T) (λy S2=>(kE ps y).map λ(i:Nat)=>((.int (i:Int):P),S2))=some (d,Y) ->
   (∀(s:Shared)(h:Hp)(n:Aa)(y:P)(vy:V)(C:Value)(i:Nat),Inv X pins σ h s->(∀p,RP X.K f t p v->RP X.K n h p v)->RP X.K n h y vy->RelV vy C->kE ps y=some i->Q (.int i) h->wpAny (model X.prog X.w) X.A (call (.builtin id) [u,C]) (EP X pins σ Q) X.xe s) ->
   wpAny (model X.prog X.w) X.A (callWith c (.builtin id) [u] (backTo c (starEach [e] X.env)) []) (EP X pins σ Q) X.xe U:=by
  intro id ps q hc;obtain⟨y,S2,e2,q⟩:=ai q;obtain⟨i,E,q⟩:=fu.mp q;cases q;rw[hs];refine Calls.callWith_builtin rfl (Calls.evalArgs_plain (Calls.spliced_cons (cV (he pins U σ t (λvy h=>∃n A,Stp f K t n A h/\Rel X.K n h A Y/\RP X.K n h y vy) W ⟨f,K,L,T,y,Y,r1,l.mono O,e2,λv n A h s2 r2 N=>⟨n,A,s2,r2,N⟩⟩) λC s2 ⟨vy,h,D,ruy,n,A,R,r2,N⟩=>kt ?_)));exact hc s2 h n y vy C i D (λp J=>RP.mono R J) N ruy E (k _ n A h (O.trans R) r2 rfl)
 cases x with
 |lst ps=>obtain⟨a,xs,rfl,hq,rp⟩:=id B;cases (show u=Value.ref a from ru);obtain⟨z,its,n',rr,hl,G⟩:=W.lstM hq.2;exact⟨"list","list.index",uW,PySem.F.slot_list_index,PySem.F.type_list_index,⟨_,G,rfl⟩,λb Z=>by cases Z;exact⟨_,G,rfl⟩,w _ ps q λs h n y vy C i D J py ry E q=>vX hu D (J _ B) py ry E q⟩
 |tup ps=>obtain⟨a,xs,rfl,hq,rp⟩:=id B;cases (show u=Value.ref a from ru);obtain⟨its,rr,o,G,⟨ec,n',ed⟩,en⟩:=W.tupleN hq.sq;exact⟨"tuple","tuple.index",PySem.F.plainAttrs_tuple,PySem.F.slot_tuple_index,PySem.F.type_tuple_index,⟨_,G,ec⟩,λb Z=>by cases Z;exact⟨_,G,en⟩,w _ ps q λs h n y vy C i D J py ry E q=>uD hu D (J _ B) py ry E q⟩
 |_=>cases q
end
variable{α:Type}
noncomputable def bQ[DecidableEq α](k:α):List α->List D->Option D
 |h::s,v::x=>if h=k then some v else bQ k s x
 |_,_=>none
noncomputable def cU[DecidableEq α](k:α)(v:D):List α->List D->List α×List D
 |h::s,w::x=>if h=k then (h::s,v::x) else (h::(cU k v s x).1,w::(cU k v s x).2)
 |_,_=>([k],[v])
def cw:List P->Option (List bz)
 | []=>some []
 |p::r=>(cj p).bind λk=>(cw r).map λs=>k::s
noncomputable def iX(d:D)(S:aD):Option (Nat×List (List bz)×List D):=match d with
 | .ref i=>match S[i]? with
  |some (.dtt k v)=>some (i,k,v)
  |_=>none
 |_=>none
theorem m_(h:iX d S=some (i,k,n)):d=.ref i/\S[i]? = some (.dtt k n):=by
 unfold iX at h;split at h
 .split at h
  .rename_i e;cases h;exact⟨rfl,e⟩
  .cases h
 .cases h
section
variable{K:FG}{F:Aa}{H:Hp}{m:List Addr}
theorem iy:∀{ps:List P}{s:List bz}{a:List V},cw ps=some s->cC K F H ps a->a=s.map kV
 | [],s,a,h,r=>by cases h;exact r
 |p::ps,s,a,h,r=>by
  obtain⟨x,m,rfl,b,c⟩:=r;unfold cw at h;cases e:cj p with
  |none=>rw[e]at h;cases h
  |some k=>
   rw[e]at h;cases n:cw ps with
   |none=>rw[n]at h;cases h
   |some f=>rw[n]at h;cases h;rw[List.map_cons,gS e b,iy n c]
theorem iT[DecidableEq α]:∀{G:List (α×V)}{s:List D},dt K F H m s (G.map (·.2)) ->
  match bQ k (G.map (·.1)) s with|some d=>∃v,fY G k=some v/\RD K F H m d v|none=>fY G k=none
 | [],s,r=>by have:s=[]:=lB r.length;subst this;rfl
 |(a,v)::G,[],r=>by have:=r.length;simp at this
 |(a,v)::G,d::s,r=>by
  obtain⟨x,c,e,p,n⟩:=r;rw[List.map_cons]at e;injection e with f b;rw[<- b]at n;simp only[List.map_cons,bQ];by_cases h:a=k
  .rw [if_pos h];exact⟨v,gO (p:=(a,v)) h,by rw[show v=x from f];exact p⟩
  .rw [if_neg h,fX (p:=(a,v)) h];exact iT n
theorem lI[DecidableEq α](b:RD K F H m y u):∀{G:List (α×V)}{s:List D},(G.map (·.1)).Nodup->dt K F H m s (G.map (·.2)) ->
  (L2.putK G k u).map (·.1)=(cU k y (G.map (·.1)) s).1/\dt K F H m (cU k y (G.map (·.1)) s).2 ((L2.putK G k u).map (·.2))
 | [],s,_,r=>by have:s=[]:=lB r.length;subst this;exact⟨rfl,u,[],rfl,b,rfl⟩
 |(h,w)::G,[],_,r=>by have:=r.length;simp at this
 |(h,w)::G,d::s,g,r=>by
  obtain⟨x,C,e,B,N⟩:=r;rw[List.map_cons]at e g;injection e with i j;subst i;subst j;obtain⟨t,p⟩:=List.nodup_cons.mp g;simp only[List.map_cons,cU];by_cases a:h=k
  .subst a;rw[if_pos rfl];have same:∀l:List (α×V),h ∉ l.map (·.1)->l.map (λv=>if v.1=h then (v.1,u) else v)=l:=by
    intro l;induction l with
    |nil=>intro _;rfl
    |cons q l A=>
     intro f;rw[List.map_cons]at f;have o:¬q.1=h:=λz=>f (by rw[<- z];exact List.mem_cons_self)
     rw[List.map_cons,if_neg o,A λz=>f (a6 _ z)]
   have n:L2.putK ((h,w)::G) h u=(h,u)::G:=by unfold L2.putK;rw[if_pos (by simp),List.map_cons,if_pos rfl,same G t]
   rw[n];exact⟨rfl,u,_,rfl,b,N⟩
  .rw [if_neg a];obtain⟨S,P⟩:=lI (k:=k) b p N;have n:L2.putK ((h,w)::G) k u=(h,w)::L2.putK G k u:=by
    unfold L2.putK;rw[ig,cn (show ¬(h,w).1=k from a),Bool.false_or];by_cases c:(G.any λv=>decide (v.1=k))=true
    .rw [if_pos c,if_pos c,List.map_cons,if_neg (show ¬(h,w).1=k from a)]
    .rw [if_neg c,if_neg c];rfl
   rw[n,List.map_cons,List.map_cons,S];exact⟨rfl,w,_,rfl,B,P⟩
end
section
variable{X:Cx}{J N:Pos}{o L:Expr}{T:Ab}{fo:EE}{fs:gC}{fv:EV}
noncomputable def sf:EE:=λ_ S=>some (.ref S.length,S++[.dtt [] []])
theorem Dt:PE X (.Dict [] [] J) (tE X.K sf):=zw.imp' λσ H Q z=>by obtain⟨F,m,L,S,d,x,r,l,q,k⟩:=z;cases q;intro p h;refine k (.ref p) F (m++[p]) _ (fw h) (r.own h ⟨[],aE,rfl,rfl⟩) ⟨p,rfl,?_⟩;rw[<- r.len,fK (Nat.le_refl _)];simp
def vK(o:EE)(k:gC):EE:=λL S=>aG (o L S) λd x=>aG (k L x) λps h=>match iX d h,cw ps with
 |some (_,s,v),some B=>if few ps=true then (bQ B s v).map λz=>(z,h) else none
 |_,_=>none
theorem B5(c:X.A.units+1 < cLine):AU X (λx y H Q=>∃a v,x=.ref a/\ja H a y (some v)/\(∃G,H a=some (.dT G))/\Q v H):=by intro L l pins s σ H x y v u Q I m t h b;obtain⟨a,w,rfl,g,⟨G,f⟩,q⟩:=h;cases m;obtain⟨_,_,_,_,o,_,_,e,k,_⟩:=I.hok a _ f;exact tail_any ⟨o,e,k.1⟩ slot_dict_getitem.lookup (qf c I g t λd p n r=>⟨w,H,n,r,q⟩) b
theorem J_ {O} (hu:X.A.units+1 < cLine) (ho:PE X o (tE X.K fo)) (hk:PA X T (oY X.K fs)) (hs:li (.Tuple T O N)):PE X (.Subscript o (.Tuple T O N) J) (tE X.K (vK fo fs)):=
 (zu (B5 hu) ho (rF hk) hs).imp' λσ H Q hz=>by
  obtain⟨F,m,L,S,d,S',r,l,q,k⟩:=hz;obtain⟨x,y,U,q⟩:=ai q;obtain⟨ps,K,V,q⟩:=ai q;refine⟨F,m,L,S,x,y,r,l,U,λv M m1 H1 D r1 p1=>?_⟩;refine⟨M,m1,L,y,ps,K,r1,l.mono D,V,λI i m2 R E C N=>?_⟩;cases s:iX x K with
  |none=>rw[s]at q;cases q
  |some t=>
   obtain⟨j,ks,vs⟩:=t;rw[s]at q;cases h:cw ps with
   |none=>rw[h]at q;cases q
   |some B=>
    rw[h]at q;dsimp only at q;split at q
    .rename_i Z;obtain⟨z,W,q⟩:=fu.mp q;cases q;obtain⟨rfl,n⟩:=m_ s;obtain⟨a,rfl,hm⟩:=RD.mono E p1;obtain⟨G,f,p,rs⟩:=C.obj j a _ hm n;subst p;have P:=iT (k:=B) rs;rw[W]at P;obtain⟨w,Y,u⟩:=P;refine⟨by rw[<- N.length];exact kG Z,λb A=>?_⟩;have c:a≠b:=λz=>by rw[z,A]at f;cases f
     have e:bW R b (.tup I) a=some (.dT G):=by rw[ao c];exact f
     have g:=cx (F:=i) (o:=.tup I) A;rw[iy h N]at e g ⊢;refine⟨a,w,rfl,by rw[<- Y];exact ja.t e aE,⟨G,e⟩,?_⟩;exact k w i m2 _ (D.trans (E.trans g.stp)) (C.grow g) (RD.mono g.stp u)
    .cases q
def uf(o:EE)(k:gC):EE:=λL S=>aG (o L S) λd h=>match iX d h with
 |none=>none
 |some _=>aG (k L h) λps x=>match iX d x,cw ps with
  |some (_,s,v),some B=>if few ps=true then some ((bQ B s v).getD (.p .non),x) else none
  |_,_=>none
theorem Gk {O} (hu:X.A.units+1 < cLine) (ho:PE X o (tE X.K fo)) (hk:PA X T (oY X.K fs)) (D:M1 X o "get" ap (.Tuple T O N) cp) :
  PE X (.Call (.Attribute o "get" ap) [.Tuple T O N] [] cp) (tE X.K (uf fo fs)):=
 (zz hu ho (rF hk) D).imp' λσ H Q hz=>by
  obtain⟨F,m,L,S,d,S',r,l,q,k⟩:=hz;obtain⟨x,c,e1,q⟩:=ai q;refine⟨F,m,L,S,x,c,r,l,e1,λv F1 m1 H1 M r1 Z=>?_⟩;cases e:iX x c with
  |none=>rw[e]at q;cases q
  |some t1=>
   obtain⟨j,ks1,vs1⟩:=t1;rw[e]at q;dsimp only at q;obtain⟨ps,U,e2,q⟩:=ai q;obtain⟨rfl,i⟩:=m_ e;obtain⟨a,rfl,hm⟩:=id Z;obtain⟨s,P,_,_⟩:=r1.obj j a _ hm i;refine⟨a,rfl,.inr ⟨s,.inl P⟩,?_⟩;refine⟨F1,m1,L,c,ps,U,r1,l.mono M,e2,λus f Y H2 R I N=>?_⟩;cases u:iX (.ref j) U with
   |none=>rw[u]at q;cases q
   |some t=>
    obtain⟨j2,ks,vs⟩:=t;rw[u]at q;cases p:cw ps with
    |none=>rw[p]at q;cases q
    |some B=>
     rw[p]at q;dsimp only at q;split at q
     .rename_i hf;cases q;obtain⟨h,y⟩:=m_ u;cases h;obtain⟨a',e4,E⟩:=RD.mono R Z;cases e4;obtain⟨G,K,C,rs⟩:=I.obj j a _ E y;subst C;have n:=iT (k:=B) rs;refine⟨by rw[<- N.length];exact kG hf,λb W=>?_⟩;have A:a≠b:=λz=>by rw[z,W]at K;cases K
      have h:bW H2 b (.tup us) a=some (.dT G):=by rw[ao A];exact K
      have g:=cx (F:=f) (o:=.tup us) W;rw[iy p N]at h g ⊢;refine⟨fY G B,ja.t h aE,?_⟩;cases V:bQ B (G.map (·.1)) vs with
      |none=>rw[V]at n k;rw[show fY G B=none from n];exact k .non f Y _ (M.trans (R.trans g.stp)) (I.grow g) rfl
      |some z=>rw[V]at n k;obtain⟨w,ev,J⟩:=n;rw[ev];exact k w f Y _ (M.trans (R.trans g.stp)) (I.grow g) (RD.mono g.stp J)
     .cases q
def ww(o:EE)(k:gC)(v:EV):ES:=λL S=>aG (v L S) λy a=>aG (o L a) λd e=>aG (k L e) λps h=>match iX d h,cw ps with
 |some (i,s,x),some B=>if (s.Nodup/\few s=true/\few ps=true) then some (.nx,L,h.set i (.dtt (cU B (.p y) s x).1 (cU B (.p y) s x).2)) else none
 |_,_=>none
theorem FY {O} (hu:X.A.units+1 < cLine) (ho:PE X o (tE X.K fo)) (g:PA X T (oY X.K fs)) (hv:PE X L (tV X.K fv)) (hs:swapsWith L (some (.Subscript o (.Tuple T O N) n)) J.line X.env=pure false) :
  PS X (.Assign [.Subscript o (.Tuple T O N) n] L J) (jn X.K (ww fo fs fv)):=(wA hu ho (rF g) hv hs).imp' λD σ H hz=>by
 obtain⟨F,m,h,S,fl,L',S',r,l,q,k⟩:=hz;obtain⟨y,C,e1,q⟩:=ai q;obtain⟨d,E,e2,q⟩:=ai q;obtain⟨ps,I,e3,q⟩:=ai q;refine⟨F,m,h,S,y,C,r,l,e1,λv P V H1 s r1 p1=>?_⟩;refine⟨P,V,h,C,d,E,r1,l.mono s,e2,λx F2 m2 H2 e r2 N=>?_⟩;refine⟨F2,m2,h,E,ps,I,r2,(l.mono s).mono e,e3,λus A W H3 f r3 Z=>?_⟩;cases w:iX d I with
 |none=>rw[w]at q;cases q
 |some t=>
  obtain⟨j,ks,vs⟩:=t;rw[w]at q;cases p:cw ps with
  |none=>rw[p]at q;cases q
  |some B=>
   rw[p]at q;dsimp only at q;split at q
   .rename_i u;cases q;obtain⟨rfl,T⟩:=m_ w;refine⟨by rw[<- Z.length];exact kG u.2.2,λb hb=>?_⟩;have M:=cx (F:=A) (o:=.tup us) hb;have K:=r3.grow M;have c:=M.stp (m:=W);obtain⟨a,rfl,i⟩:=RD.mono c (RD.mono f N);obtain⟨G,R,g,rs⟩:=K.obj j a _ i T;subst g;have pv:=RD.mono c (RD.mono f (RD.mono e (show RD X.K P H1 V (.p y) v from p1)));obtain⟨h1,h2⟩:=lI (k:=B) pv u.1 rs;have Y:∀zs,bW H3 b (.tup us) a≠some (.tup zs):=λzs z=>by rw[R]at z;cases z
    have U:=fR (o:=.dT (L2.putK G B v)) K i T trivial Y;have hl:G.length < sizeLine:=by have Q:(G.map (·.1)).length≤1000000:=aS u.2.1;rw[a7]at Q;exact ly Q (by decide)
    refine⟨a,_,rfl,uL.t (k:=B) R ?_ hl,?_⟩
    .rw [iy p Z];exact aE
    .exact k σ A W _ (s.trans (e.trans (f.trans (c.trans U)))) (K.set i T trivial Y ⟨_,aE,h1,dt.mono U h2⟩) ((((l.mono s).mono e).mono f).mono (c.trans U))
   .cases q
end
section
variable{X:Cx}{pins:PN}{σ:L2.St}{H:Hp}{s:Shared}{a:Addr}{G:List (bz×V)}{B:bz}{u r:Value}{x:V}{A:Around}{E:VP}
theorem AB(I:Inv X pins σ H s)(e:H a=some (.dK G))(K:G.length < sizeLine)(S:RelV (kV B) u)(o:RelV x r)
  (t:∀v w n,fY G B=some v->RelV v w->Inv X pins σ H n->Q w n) (p:fY G B=none->∀n,Inv X pins σ (bW H a (.dK (L2.putK G B x))) n->Q r n) :
  wpAny (model X.prog X.w) A (call (.builtin "dict.setdefault") [.ref a,u,r]) Q E s:=by
 obtain⟨z,hd,F,l,k⟩:=w1 I.hok e;have h:=l.val B;refine kN PySem.F.slot_dict_setdefault k.typeIs PySem.F.entry_dict_setdefault (PySem.F.args_dict_setdefault_3 _ _ _) (kt_meets_setdefault (bH X.prog X.w) a (mj S) hd r)
  ⟨F,k,by rw[<- l.length];exact z,λv f=>?_,λc m d j=>?_⟩
 .cases q:fY G B with
  |none=>rw[q,f]at h;cases h
  |some b=>rw[q,f]at h;exact t b v _ q h (I.tok _)
 .have q:fY G B=none:=by
   cases q:fY G B with
   |none=>rfl
   |some b=>rw[q,c]at h;cases h
  refine p q _ ?_;have g:∃q,m.get? a=some q:=let ⟨q,_,_,i,_⟩:=d;⟨q,i⟩
  have y:(L2.putK G B x).length≤sizeLine:=by have:=jI G B x;lia
  exact sm I (by rw[e];exact True.intro) j g (Ay y hd (l.put B o) d)
end
section
variable{X:Cx}{o e f:Expr}{ap cp:Pos}{fo fd:EE}{fk:EV}
def nj(o:EE)(k:EV)(d:EE):EE:=λL S=>aG (o L S) λx a=>match jE x a with
 |none=>none
 |some _=>aG (k L a) λz e=>aG (d L e) λy h=>match jE x h,cj z with
  |some (i,s,v),some B=>if (s.Nodup/\few s=true) then match bQ B s v with
    |some w=>some (w,h)
    |none=>some (y,h.set i (.dct (cU B y s v).1 (cU B y s v).2))
   else none
  |_,_=>none
theorem A3(ho:PE X o (tE X.K fo))(he:PE X e (tV X.K fk))(hf:PE X f (tE X.K fd))(n:M2 X o "setdefault" ap e f cp):PE X (.Call (.Attribute o "setdefault" ap) [e,f] [] cp) (tE X.K (nj fo fk fd)):=by
 intro pins s σ H Q I ⟨F,m,L,S,d,S',r,l,q,k⟩;obtain⟨x,S1,e1,q⟩:=ai q;refine wpAny_Call_method n.base n.few n.line uV PySem.F.slot_dict_setdefault PySem.F.type_dict_setdefault
  (cV (ho pins s σ H (λv P=>∃b i,Stp F m H b i P/\Rel X.K b P i S1/\RD X.K b P i x v) I ⟨F,m,L,S,x,S1,r,l,e1,λv b i P s1 r1 p1=>⟨b,i,s1,r1,p1⟩⟩) λu s1 ⟨v,P,I1,ru,b,i,M,r1,p1⟩=>?_)
 cases C:jE x S1 with
 |none=>rw[C]at q;cases q
 |some t1=>
  obtain⟨j,ks1,vs1⟩:=t1;rw [C] at q;dsimp only at q;obtain⟨z,S2,e2,q⟩:=ai q;obtain⟨y,S3,e3,q⟩:=ai q;obtain⟨rfl,es1⟩:=rJ C;obtain⟨a,rfl,hm⟩:=id p1;obtain⟨Y,hH1,_,_⟩:=r1.obj j a _ hm es1;cases (show u=Value.ref a from ru);obtain⟨t1,t2,_⟩:=vF I1 (.inl ⟨Y,.inl hH1⟩);refine⟨t1,t2,?_⟩;rw [n.trees];refine Calls.callWith_builtin rfl (Calls.evalArgs_plain (Calls.spliced_cons (cV (he pins s1 σ P (fun vz A=>∃c J,Stp b i P c J A/\Rel X.K c A J S2/\RP X.K c A z vz) I1 ⟨b,i,L,S1,z,S2,r1,l.mono M,e2,fun v c J A s2 r2 N=>⟨c,J,s2,r2,N⟩⟩) fun uz s2 ⟨vz,A,I2,rz,c,J,O,r2,N⟩=>
   Calls.spliced_cons (cV (hf pins s2 σ A (λvy g=>∃p K,Stp c J A p K g/\Rel X.K p g K S3/\RD X.K p g K y vy) I2 ⟨c,J,L,S2,y,S3,r2,(l.mono M).mono O,e3,λv p K g s3 T p3=>⟨p,K,s3,T,p3⟩⟩) λuy s3 ⟨vy,g,I3,ry,p,K,tt,T,p3⟩=>kt ?_))))
  cases eo:jE (.ref j) S3 with
  |none=>rw[eo]at q;cases q
  |some t=>
   obtain⟨j2,ks,vs⟩:=t;rw[eo]at q;cases ek:cj z with
   |none=>rw[ek]at q;cases q
   |some B=>
    rw[ek]at q;dsimp only at q;split at q
    .rename_i hc;obtain⟨e4,D⟩:=rJ eo;cases e4;obtain⟨a',e5,E⟩:=RD.mono (O.trans tt) p1;cases e5;obtain⟨G,hH,hk,rs⟩:=T.obj j a _ E D;subst hk;have R:=iT (k:=B) rs;have pz:=RP.mono tt N;have ez:=gS ek pz;subst ez;have hl:G.length < sizeLine:=by
      have h9:(G.map (·.1)).length≤1000000:=aS hc.2;rw[a7]at h9;exact ly h9 (by decide)
     have Z:=M.trans (O.trans tt);refine AB I3 hH hl rz ry (λv w s' W rv I'=>?_) λW s' I'=>?_
     .cases V:bQ B (G.map (·.1)) vs with
      |none=>rw[V]at R;rw[show fY G B=none from R]at W;cases W
      |some w'=>rw[V]at R q;dsimp only at q;cases q;obtain⟨v',h,rd⟩:=R;rw[W]at h;cases h;exact⟨v,g,I',rv,k v p K g Z T rd⟩
     .cases V:bQ B (G.map (·.1)) vs with
      |some w'=>rw[V]at R;obtain⟨v',h,_⟩:=R;rw[W]at h;cases h
      |none=>
       rw[V]at q;dsimp only at q;cases q;obtain⟨h1,h2⟩:=lI (k:=B) p3 hc.1 rs;have nt:∀zs,g a≠some (.tup zs):=λzs z=>by rw[hH]at z;cases z
       have U:=fR (o:=.dK (L2.putK G B vy)) T E D trivial nt;exact⟨vy,_,I',ry,k vy p K _ (Z.trans U) (T.set E D trivial nt ⟨_,aE,h1,dt.mono U h2⟩) (RD.mono U p3)⟩
    .cases q
end
end Ev
namespace PySem
open PySem PyProof.Rows
section
variable{prog:Program}{w:World}{A:Around}{E:VP}{s:Shared}
theorem tj(t:s.heap.IsTupleIter k h i)(f:s.heap.IsTuple h n)(b:n[i]? = some x)
  (e:∀a,a.IsTupleIter k h (i+1)->Heap.SameBut k s.heap a->Q x { s with heap:=a }):wpAny (model prog w) A (Builtin.SmallTypes.nextOf (.ref k)) Q E s:=by
 have T:=t.typeIs;obtain⟨⟨q,v,m,r⟩,o,c,hd⟩:=id t;obtain⟨u,l,_,p,d⟩:=f;dsimp only at c hd;subst c hd;unfold Builtin.SmallTypes.nextOf;apply wpAny_bind;apply wpAny_callSpecial?_slot (name:=Str.ofString "__next__") T F.slot_tuple_iterator_next;refine wpAny_call_entry F.slot_tuple_iterator_next T F.entry_tuple_iterator_next ?_ (F.args_tuple_iterator_next_1 _);repeat first|with_reducible refine wpAny_bind (wpAny_field o rfl (x:=.ref h) rfl ?_)|wp_step
 rw[d];apply wpAny_pure;simp only[Int.toNat_natCast,b];apply wpAny_bind;apply wpAny_setField o rfl (by simp);refine wpAny_pure ⟨x,rfl,wpAny_pure (e _ ⟨_,qS _ o rfl,rfl,?_⟩ (qD ..))⟩;simp[Obj.mapFields,rawInt]
def gb(h:Heap)(z TI TO:Addr)(f0 f:Value):Prop:=h.get? z=some { cls:=.type "zip",data:=.fields #[f0,f,.bool false,.ref TI,.ref TO] }
def e_(h:Heap)(T:Addr)(a b:Value):Prop:=h.get? T=some { cls:=.type "tuple",data:=.seq #[a,b] }
theorem yx (l y:Addr) (X Y:Array Value):Meets (Builtin.«zip.__new__» ⟨[.type "zip",.ref l,.ref y],[]⟩) (fun _ R s=>s.heap.IsList l X/\s.heap.IsTuple y Y /\
  ∀v S F TI TO z,(∀b o,s.heap.get? b=some o->v.get? b=some o)->s.heap.objs.size≤S->S < F->F < TI->TI < TO->TO < z->v.IsListIter S l 0->v.IsTupleIter F y 0->e_ v TI (.ref S) (.ref F)->e_ v TO .none .none ->
   gb v z TI TO .none (.bool false)->R (.ok (.ret (.ref z))) { s with heap:=v }):=
 .of_wp λprog w A R s h=>by
  obtain⟨i,g,d,V,os⟩:=s;obtain⟨B,C,h⟩:=h;have U:=sub_zip;have L:Heap.IsList (Shared.heap ⟨i,g,d,V,os⟩) l X:=B;have P:Heap.IsTuple (Shared.heap ⟨i.push { cls:=.type "list_iterator",data:=.fields #[.ref l,.int 0 0] },g,d,V,os⟩) y Y:=C.push _
  wp_walk using wpAny_pyIter_list L,wpAny_pyIter_tuple P
  have j:∀(u n x a f c:Heap)(r t p q m:Obj),n=u.push r->x=n.push t->a=x.push p->f=a.push q->c=f.push m->r.isFreed=false->t.isFreed=false->p.isFreed=false->q.isFreed=false->m.isFreed=false ->
    (∀b o,u.get? b=some o->c.get? b=some o)/\u.objs.size < n.objs.size/\n.objs.size < x.objs.size/\x.objs.size < a.objs.size/\a.objs.size < f.objs.size /\
    c.get? u.objs.size=some r/\c.get? n.objs.size=some t/\c.get? x.objs.size=some p/\c.get? a.objs.size=some q/\c.get? f.objs.size=some m:=by
   intro u n x a f c r t p q m E G I J M f1 f2 f3 f4 f5;have N:n.get? u.objs.size=some r:=by rw[E];exact Heap.get?_push_size _ f1
   have O:x.get? n.objs.size=some t:=by rw[G];exact Heap.get?_push_size _ f2
   have Q:a.get? x.objs.size=some p:=by rw[I];exact Heap.get?_push_size _ f3
   have T:f.get? a.objs.size=some q:=by rw[J];exact Heap.get?_push_size _ f4
   have g5:c.get? f.objs.size=some m:=by rw[M];exact Heap.get?_push_size _ f5
   have W:∀b o,n.get? b=some o->x.get? b=some o:=λb o e=>by rw[G];exact Heap.get?_push_of_some _ e
   have D:∀b o,x.get? b=some o->a.get? b=some o:=λb o e=>by rw[I];exact Heap.get?_push_of_some _ e
   have K:∀b o,a.get? b=some o->f.get? b=some o:=λb o e=>by rw[J];exact Heap.get?_push_of_some _ e
   have H:∀b o,f.get? b=some o->c.get? b=some o:=λb o e=>by rw[M];exact Heap.get?_push_of_some _ e
   exact⟨λb o e=>H _ _ (K _ _ (D _ _ (W _ _ (by rw[E];exact Heap.get?_push_of_some _ e)))),Heap.lt_size N,Heap.lt_size O,Heap.lt_size Q,Heap.lt_size T,H _ _ (K _ _ (D _ _ (W _ _ N))),H _ _ (K _ _ (D _ _ O)),H _ _ (K _ _ Q),H _ _ T,g5⟩
  let r:Obj:={ cls:=.type "list_iterator",data:=.fields #[.ref l,.int 0 0] }
  let n:=i.push r
  let t:Obj:={ cls:=.type "tuple_iterator",data:=.fields #[.ref y,.int 0 0] }
  let x:=n.push t
  let p:Obj:={ cls:=.type "tuple",data:=.seq #[.ref i.objs.size,.ref n.objs.size] }
  let a:=x.push p
  let q:Obj:={ cls:=.type "tuple",data:=.seq #[.none,.none] }
  let f:=a.push q
  let m:Obj:={ cls:=.type "zip",data:=.fields #[.none,.bool false,.bool false,.ref x.objs.size,.ref a.objs.size] }
  obtain⟨k,s1,s2,s3,s4,Z,a2,a3,a4,a5⟩:=j i n x a f (f.push m) r t p q m rfl rfl rfl rfl rfl rfl rfl rfl rfl rfl;exact⟨_,rfl,h (f.push m) i.objs.size n.objs.size x.objs.size a.objs.size f.objs.size k (Nat.le_refl _) s1 s2 s3 s4 ⟨_,Z,rfl,rfl⟩ ⟨_,a2,rfl,rfl⟩ a3 a4 a5⟩
end
section
variable{prog:Program}{w:World}{A:Around}{E:VP}{s:Shared}
theorem yn(h:Q (s.heap.get? a) s):wpAny M A (loadIfAlive a) Q E s:=λx p _=>by unfold loadIfAlive;rw[Sem.wp_loadIfAlive];exact(Sem.wp_pure ..).mpr h
theorem ou{z TI TO T:Addr}{f:Bool}{o:Obj}{Q:Bool->Shared->Prop}(a:gb s.heap z TI TO (rawInt T) (.bool f))(n:s.heap.get? T=some o)
  (h:∀e,gb e z TI TO (rawInt T) (.bool true)->Heap.SameBut z s.heap e->Q false { s with heap:=e }):wpAny (model prog w) A (Builtin.SmallTypes.ownedTupleIsFree (.ref z)) Q E s:=by
 unfold Builtin.SmallTypes.ownedTupleIsFree;apply wpAny_bind;refine wpAny_field (show s.heap.get? z=some _ from a) rfl (x:=rawInt T) rfl ?_;unfold rawInt;dsimp only;apply wpAny_bind;refine yn ?_;rw[Int.toNat_natCast,n];rw[if_neg (by simp)];apply wpAny_bind;refine wpAny_field (show s.heap.get? z=some _ from a) rfl (x:=.bool f) rfl ?_;cases f with
 |true=>rw[if_neg (by decide)];exact wpAny_pure (h s.heap a ⟨rfl,λ_ _=>rfl⟩)
 |false=>rw[if_pos (by decide)];apply wpAny_bind;refine wpAny_setField (show s.heap.get? z=some _ from a) rfl (by simp) (wpAny_pure (h _ ?_ (qD ..)));unfold gb;rw[qS _ (show s.heap.get? z=some _ from a) rfl];simp[Obj.mapFields]
theorem xk{z TI TO i h l m T:Addr}{K:Bool}{k:Nat}{H S:Array Value}{x y:Value}{W:Obj}{Q:VP}(q:gb s.heap z TI TO (rawInt T) (.bool K))(I:e_ s.heap TI (.ref i) (.ref h))(D:s.heap.get? T=some W)
  (P:s.heap.IsListIter i l k) (B:s.heap.IsTupleIter h m k) (t:s.heap.IsList l H) (p:s.heap.IsTuple m S) (J:H[k]? = some x) (L:S[k]? = some y)
  (u:i≠z) (g:h≠z) (R:l≠z) (U:m≠z) (j:h≠i) (V:m≠i) (n7:l≠h) (n8:l≠i) (n9:m≠h)
  (C:∀f:Heap,gb f z TI TO (rawInt T) (.bool true)->f.IsListIter i l (k+1)->f.IsTupleIter h m (k+1)->(∀c o,c≠z->c≠i->c≠h->s.heap.get? c=some o->f.get? c=some o) ->
   Q (.ref f.objs.size) { s with heap:=f.push { cls:=.type "tuple",data:=.seq #[x,y] } }) :
  wpAny (model prog w) A (Builtin.«zip.__next__» ⟨[.ref z],[]⟩) (λr X=>∃v,r=.done (.ret v)/\Q v X) E s:=by
 unfold Builtin.«zip.__next__»;apply wpAny_bind;apply wpAny_pure;apply wpAny_bind;refine wpAny_field (show s.heap.get? z=some _ from q) rfl (x:=.bool false) rfl ?_;apply wpAny_bind;refine wpAny_field (show s.heap.get? z=some _ from q) rfl (x:=.ref TI) rfl ?_;apply wpAny_bind;refine wpAny_seqItems (show s.heap.get? TI=some _ from I) rfl ?_;dsimp only;rw[if_neg (by simp)];apply wpAny_bind;refine ou q D λZ d b=>?_
 rw[if_neg (by simp)];apply wpAny_bind;rw[<- Array.forIn_toList];show wpAny _ _ (forIn [Value.ref i,Value.ref h] _ _) _ _ _;rw[List.forIn_cons];apply wpAny_bind;apply wpAny_bind;apply wpAny_holding;show wpAny _ _ (Builtin.SmallTypes.nextOf (.ref i) >>= _) _ _ _;apply wpAny_bind;refine wpAny_nextOf_list_item (P.extBut b.extBut u) (t.extBut b.extBut R) J λha M a=>wpAny_pure ?_;dsimp only;apply wpAny_pure;dsimp only;rw[List.forIn_cons];apply wpAny_bind;apply wpAny_bind;apply wpAny_holding;show wpAny _ _ (Builtin.SmallTypes.nextOf (.ref h) >>= _) _ _ _;apply wpAny_bind;refine tj ((B.extBut b.extBut g).extBut a.extBut j) ((p.extBut b.extBut U).extBut a.extBut V) L λG N n=>wpAny_pure ?_;dsimp only;apply wpAny_pure;dsimp only;rw[List.forIn_nil];apply wpAny_pure;dsimp only;apply wpAny_bind;refine wpAny_newTuple (hsz:=by show 2≤sizeLine;decide) (wpAny_pure ⟨_,rfl,C G ?_ ?_ N ?_⟩)
 .exact n.extBut _ _ (Ne.symm g) (a.extBut _ _ (Ne.symm u) d)
 .exact M.extBut n.extBut (Ne.symm j)
 .exact λc o O Y F e=>n.extBut _ _ F (a.extBut _ _ Y (b.extBut _ _ O e))
theorem yy{z TI TO i f n T:Addr}{t:Bool}{k:Nat}{m:Array Value}{H:Obj}{Q:Fin->Shared->Prop}(d:A.handled=none)(a:gb s.heap z TI TO (rawInt T) (.bool t))(I:e_ s.heap TI (.ref i) (.ref f))(v:s.heap.get? T=some H)
  (p:s.heap.IsListIter i n k) (l:s.heap.IsList n m) (u:m[k]? = none) (j:i≠z) (y:n≠z)
  (q:∀h e,(∀c o,c≠z->c≠i->s.heap.get? c=some o->h.get? c=some o)->(∃o,h.get? e=some o/\o.cls=.type "StopIteration")->E (.ref e) { s with heap:=h }) :
  wpAny (model prog w) A (Builtin.«zip.__next__» ⟨[.ref z],[]⟩) Q E s:=by
 unfold Builtin.«zip.__next__»;apply wpAny_bind;apply wpAny_pure;apply wpAny_bind;refine wpAny_field (show s.heap.get? z=some _ from a) rfl (x:=.bool false) rfl ?_;apply wpAny_bind;refine wpAny_field (show s.heap.get? z=some _ from a) rfl (x:=.ref TI) rfl ?_;apply wpAny_bind;refine wpAny_seqItems (show s.heap.get? TI=some _ from I) rfl ?_;dsimp only;rw[if_neg (by simp)];apply wpAny_bind;refine ou a v λS g b=>?_
 rw[if_neg (by simp)];apply wpAny_bind;rw[<- Array.forIn_toList];show wpAny _ _ (forIn [Value.ref i,Value.ref f] _ _) _ _ _;rw[List.forIn_cons];apply wpAny_bind;apply wpAny_bind;apply wpAny_holding;show wpAny _ _ (Builtin.SmallTypes.nextOf (.ref i) >>= _) _ _ _;apply wpAny_bind;exact wpAny_nextOf_list_end d (p.extBut b.extBut j) (l.extBut b.extBut y) u λh e x o=>q h e (λc F O Y r=>x _ _ Y (b.extBut _ _ O r)) o
end
section
variable{prog:Program}{w:World}{A:Around}{E:VP}{s:Shared}
theorem xl{z TI TO i m K l:Addr}{xs ys:Array Value}{x y:Value}{Q:VP}(d:gb s.heap z TI TO .none (.bool false))(I:e_ s.heap TI (.ref i) (.ref m))(B:e_ s.heap TO .none .none)
  (h1:s.heap.IsListIter i K 0) (h2:s.heap.IsTupleIter m l 0) (C:s.heap.IsList K xs) (D:s.heap.IsTuple l ys) (hx:xs[0]? = some x) (hy:ys[0]? = some y)
  (N:i≠z) (U:m≠z) (n3:K≠z) (n4:l≠z) (n5:m≠i) (n6:l≠i) (V:TO≠z) (W:TO≠i) (X:TO≠m) (R:l≠TO)
  (hQ:∀(q:Heap) (T:Addr),gb q z TI TO (rawInt T) (.bool false)->q.IsListIter i K 1->q.IsTupleIter m l 1->e_ q T x y->s.heap.get? T=none->(∀c o,c≠z->c≠i->c≠m->c≠TO->s.heap.get? c=some o->q.get? c=some o) ->
   Q (.ref T) { s with heap:=q }) :
  wpAny (model prog w) A (Builtin.«zip.__next__» ⟨[.ref z],[]⟩) (λP s'=>∃v,P=.done (.ret v)/\Q v s') E s:=by
 unfold Builtin.«zip.__next__»;apply wpAny_bind;apply wpAny_pure;apply wpAny_bind;refine wpAny_field (show s.heap.get? z=some _ from d) rfl (x:=.bool false) rfl ?_;apply wpAny_bind;refine wpAny_field (show s.heap.get? z=some _ from d) rfl (x:=.ref TI) rfl ?_;apply wpAny_bind;refine wpAny_seqItems (show s.heap.get? TI=some _ from I) rfl ?_;dsimp only;rw[if_neg (by simp)];apply wpAny_bind;unfold Builtin.SmallTypes.ownedTupleIsFree;apply wpAny_bind;refine wpAny_field (show s.heap.get? z=some _ from d) rfl (x:=.none) rfl (wpAny_pure ?_);rw[if_pos rfl];apply wpAny_bind;apply wpAny_rule;apply wpAny_bind;refine wpAny_field (show s.heap.get? z=some _ from d) rfl (x:=.ref TO) rfl ?_;dsimp only;apply wpAny_bind;refine wpAny_setField_rec (show s.heap.get? z=some _ from d) (by simp) λh0 G b=>?_
 apply wpAny_bind;show wpAny _ _ (forIn [(Value.ref i,0),(Value.ref m,1)] _ _) _ _ _;rw[List.forIn_cons];apply wpAny_bind;apply wpAny_bind;apply wpAny_onRaise;show wpAny _ _ (Builtin.SmallTypes.nextOf (.ref i) >>= _) _ _ _;apply wpAny_bind;refine wpAny_nextOf_list_item (h1.extBut b.extBut N) (C.extBut b.extBut n3) hx λha ia h=>wpAny_pure ?_;dsimp only;have H:ha.get? TO=some { cls:=.type "tuple",data:=.seq #[.none,.none] }:=h.extBut _ _ W (b.extBut _ _ V B);apply wpAny_bind;refine wpAny_seqItems H rfl ?_;dsimp only;apply wpAny_bind;refine wpAny_updateSeq_pair (s:={ s with heap:=ha }) H λhb t a=>?_;replace t:hb.get? TO=some { cls:=.type "tuple",data:=.seq #[x,.none] }:=t;apply wpAny_bind;apply wpAny_letGo;apply wpAny_pure;dsimp only;rw[List.forIn_cons];apply wpAny_bind;apply wpAny_bind;apply wpAny_onRaise;show wpAny _ _ (Builtin.SmallTypes.nextOf (.ref m) >>= _) _ _ _;apply wpAny_bind;refine tj (((h2.extBut b.extBut U).extBut h.extBut n5).extBut a.extBut (Ne.symm X)) (((D.extBut b.extBut n4).extBut h.extBut n6).extBut a.extBut R) hy λhc ic n=>wpAny_pure ?_;dsimp only;have S:hc.get? TO=some { cls:=.type "tuple",data:=.seq #[x,.none] }:=n.extBut _ _ X t;apply wpAny_bind;refine wpAny_seqItems S rfl ?_;dsimp only;apply wpAny_bind;refine wpAny_updateSeq_pair (s:={ s with heap:=hc }) S λhd p f=>?_;replace p:hd.get? TO=some { cls:=.type "tuple",data:=.seq #[x,y] }:=p;apply wpAny_bind;apply wpAny_letGo;apply wpAny_pure;dsimp only;rw[List.forIn_nil];apply wpAny_pure;dsimp only;apply wpAny_bind;refine wpAny_seqItems p rfl ?_;dsimp only;apply wpAny_bind;refine wpAny_newTuple (hsz:=by show 2≤sizeLine;decide) ?_;have u:hd.get? z=some { cls:=.type "zip",data:=.fields #[.ellipsis,.bool false,.bool false,.ref TI,.ref TO] }:=f.extBut _ _ (Ne.symm V) (n.extBut _ _ (Ne.symm U) (a.extBut _ _ (Ne.symm V) (h.extBut _ _ (Ne.symm N) G)));have F:=Heap.lt_size u;have J:(hd.push { cls:=.type "tuple",data:=.seq #[x,y] }).get? z=some { cls:=.type "zip",data:=.fields #[.ellipsis,.bool false,.bool false,.ref TI,.ref TO] }:=Heap.get?_push_of_some _ u;apply wpAny_bind;unfold Builtin.SmallTypes.ownedTupleHandOut;dsimp only;apply wpAny_bind;refine wpAny_setField_rec J (by simp) λhe L g=>?_;refine wpAny_setField_rec L (by simp) λhf M j=>?_;have k:∀c o,c≠z->hd.get? c=some o->hf.get? c=some o:=λc o O e=>j.extBut _ _ O (g.extBut _ _ O (Heap.get?_push_of_some _ e));refine wpAny_pure ⟨_,rfl,hQ hf hd.objs.size M ?_ ?_ ?_ ?_ ?_⟩
 .exact (((ia.extBut a.extBut (Ne.symm W)).extBut n.extBut (Ne.symm n5)).extBut f.extBut (Ne.symm W)).at λo e=>k _ o N e
 .obtain⟨o,e,r⟩:=ic.extBut f.extBut (Ne.symm X);exact⟨o,k _ o U e,r⟩
 .exact j.extBut _ _ (cO F) (g.extBut _ _ (cO F) (Heap.get?_push_size _ rfl))
 .cases e:s.heap.get? hd.objs.size with
  |none=>rfl
  |some o=>exact absurd (Heap.lt_size e) (by rw[f.1,n.1,a.1,h.1,b.1];exact jt _)
 .exact λc o O Y c3 Z e=>k c o O (f.extBut _ _ Z (n.extBut _ _ c3 (a.extBut _ _ Z (h.extBut _ _ Y (b.extBut _ _ O e)))))
theorem yz(j:A.handled=none)(a:gb s.heap z TI TO .none (.bool false))(T:e_ s.heap TI (.ref k) (.ref I))
  (u:s.heap.IsListIter k d 0) (l:s.heap.IsList d M) (y:M[0]? = none) (t:k≠z) (S:d≠z)
  (i:∀h e,(∀c o,c≠z->c≠k->s.heap.get? c=some o->h.get? c=some o)->(∃o,h.get? e=some o/\o.cls=.type "StopIteration")->E (.ref e) { s with heap:=h }) :
  wpAny (model prog w) A (Builtin.«zip.__next__» ⟨[.ref z],[]⟩) Q E s:=by
 unfold Builtin.«zip.__next__»;apply wpAny_bind;apply wpAny_pure;apply wpAny_bind;refine wpAny_field (show s.heap.get? z=some _ from a) rfl (x:=.bool false) rfl ?_;apply wpAny_bind;refine wpAny_field (show s.heap.get? z=some _ from a) rfl (x:=.ref TI) rfl ?_;apply wpAny_bind;refine wpAny_seqItems (show s.heap.get? TI=some _ from T) rfl ?_;dsimp only;rw[if_neg (by simp)];apply wpAny_bind;unfold Builtin.SmallTypes.ownedTupleIsFree;apply wpAny_bind;refine wpAny_field (show s.heap.get? z=some _ from a) rfl (x:=.none) rfl (wpAny_pure ?_);rw[if_pos rfl];apply wpAny_bind;apply wpAny_rule;apply wpAny_bind;refine wpAny_field (show s.heap.get? z=some _ from a) rfl (x:=.ref TO) rfl ?_;dsimp only;apply wpAny_bind;refine wpAny_setField_rec (show s.heap.get? z=some _ from a) (by simp) λK r b=>?_
 apply wpAny_bind;show wpAny _ _ (forIn [(Value.ref k,0),(Value.ref I,1)] _ _) _ _ _;rw[List.forIn_cons];apply wpAny_bind;apply wpAny_bind;apply wpAny_onRaise;show wpAny _ _ (Builtin.SmallTypes.nextOf (.ref k) >>= _) _ _ _;apply wpAny_bind;refine wpAny_nextOf_list_end j (u.extBut b.extBut t) (l.extBut b.extBut S) y λh e x o=>?_;have n:=x _ _ (Ne.symm t) r;refine wpAny_setField_rec (s:={ s with heap:=h }) n (by simp) λg H f=>i g e (λc p O Y v=>f.extBut _ _ O (x _ _ Y (b.extBut _ _ O v))) ?_;obtain⟨p,m,c⟩:=o;have F:e≠z:=λq=>by rw[q,n]at m;cases m;exact absurd (show Value.type "zip"=Value.type "StopIteration" from c) (by decide)
 exact⟨p,f.extBut _ _ F m,c⟩
end
theorem sX:typeLookup (.type "zip") "keys"=pure none:=by rw[typeLookup_type,builtinLookup_eq_fast];kernel_rfl
theorem nD:typeLookup (.type "zip") "__getattr__"=pure none:=by rw[typeLookup_type,builtinLookup_eq_fast];kernel_rfl
theorem lD:entryFor table "zip.__getattribute__"=some Builtin.«object.__getattribute__»:=
 entryFor_alias (id':="object.__getattribute__") (by kernel_rfl) (by decide +kernel) (by decide +kernel) (by kernel_rfl)
section
variable{prog:Program}{w:World}{A:Around}{E:VP}{s:Shared}
theorem yw(z TI TO:Addr)(f0 f1:Value)(u:Tok):Meets (Builtin.«object.__getattribute__» ⟨[.ref z,.str "keys" u],[]⟩) (λA R s=>gb s.heap z TI TO f0 f1/\raisesAttr (.ref z) "keys" A R s):=
 .of_wp λprog w A R s hs=>by
  obtain⟨hp,g,d,tk,os⟩:=s;obtain⟨hx,hs⟩:=hs;unfold gb at hx;have hT:(⟨hp,g,d,tk,os⟩:Shared).TypeIs (.ref z) "zip":=⟨_,hx,rfl⟩;have nk:=sX;unfold Builtin.«object.__getattribute__»;repeat any_goals first|assumption|wp_step
  exact wpAny_raiseAttrError hs.1 hs.2 (attrMsg_fits (by decide +kernel) (by size_fits))
theorem xj(q:gb s.heap z TI TO f0 j)(i:A.handled=none)
  (h:∀x v,(∀b o,s.heap.get? b=some o->x.get? b=some o)->Q none { s with heap:=x,toks:=v }):wpAny (model prog w) A (getAttr? (.ref z) "keys") Q E s:=by
 obtain⟨p,g,d,v,os⟩:=s;have T:∀t,(⟨p,g,d,t,os⟩:Shared).TypeIs (.ref z) "zip":=λ_=>⟨_,q,rfl⟩;have j:=sub_AttributeError;have l:=qV.lookup;have y:=qV.bind (.ref z);have H:=nD;have step:∀(n:Nat)(u:Tok)(m:VP)(f:VP),(∀x c e,Heap.NewAttrErr p x e (.ref z) "keys"->f (.ref e) ⟨x,g,d,c,os⟩) ->
   wpAny (model prog w) A (call (Value.builtin "zip.__getattribute__") ([Value.ref z]++[Value.str "keys" u]) []) m f ⟨p,g,d,n,os⟩:=λn u m f k=>
  call_meets qV (T _) lD (F.args_zip_getattribute_2 _ _) (yw z TI TO _ _ u) ⟨q,i,k⟩
 unfold getAttr?;unfold getAttrBy?;unfold getAttrBy;repeat any_goals first|assumption|exact T _|(with_reducible refine step _ _ _ _ λx t e a=>?_)|wp_step
 have r:=a.there;obtain⟨S,K,r⟩:=r;repeat any_goals first|assumption|wp_step
 exact h _ _ a.keeps
end
section
variable{prog:Program}{w:World}{A:Around}{E:VP}{s:Shared}
theorem yv(n:s.TypeIs (.ref z) "zip")
  (h:wpAny (model prog w) A.in1 (Builtin.«zip.__next__» ⟨[.ref z],[]⟩) (λf x=>∃v,f=.done (.ret v)/\Q (some v) x) (λe x=>∃a o,e=.ref a/\x.heap.get? a=some o/\o.cls=.type "StopIteration"/\Q none x) s) :
  wpAny (model prog w) A (pyNext (.ref z)) Q E s:=by
 unfold pyNext;apply wpAny_bind;apply wpAny_attempt;refine wpAny_callSpecial?_slot (name:=Str.ofString "__next__") n F.slot_zip_next (wpAny_call_entry F.slot_zip_next n F.entry_zip_next (wpAny_mono h (λf x ⟨v,e,q⟩=>⟨v,e,wpAny_pure q⟩) λe x ⟨a,o,k,c,m,q⟩=>?_) (F.args_zip_next_1 _));subst k;apply wpAny_bind;exact wpAny_isInstance (T:="StopIteration") (b:=true) ⟨_,c,m⟩ isSubtype_stop (wpAny_pure q)
def Cv(d:Addr)(h:Heap)(z TI TO i x l a:Addr)(k:Nat):Prop:=e_ h TI (.ref i) (.ref x)/\h.IsListIter i l k/\h.IsTupleIter x a k /\
 ((k=0/\gb h z TI TO .none (.bool false)/\e_ h TO .none .none)\/∃(T:Addr)(o:Obj)(f:Bool),gb h z TI TO (rawInt T) (.bool f)/\h.get? T=some o/\T≠z/\T≠i/\T≠x/\T≠d)
structure ZAp(d z TI TO i1 i2 l1 l2:Addr):Prop where
 nd:[d,z,TI,TO,i1,i2].Nodup
 l1n:l1 ∉ [d,z,TI,TO,i1,i2]
 l2n:l2 ∉ [d,z,TI,TO,i1,i2]
theorem Cv.typeIs(x:Cv d s.heap z TI TO n c l q k):s.TypeIs (.ref z) "zip":=by
 obtain⟨_,_,_,⟨_,h,_⟩|⟨T,o,f,h,_⟩⟩:=x
 .exact⟨_,h,rfl⟩
 .exact⟨_,h,rfl⟩
theorem Cv.but(x:Cv d h z TI TO c q l j k)(p:ZAp d z TI TO c q l j)(s:Heap.SameBut d h I):Cv d I z TI TO c q l j k:=by
 have n:=p.nd;simp only[List.nodup_cons,ba,dB,du,not_or]at n;obtain⟨b,m,r,v⟩:=x;refine⟨s.extBut _ _ (Ne.symm n.1.2.1) b,m.extBut s.extBut (Ne.symm n.1.2.2.2.1),r.extBut s.extBut (Ne.symm n.1.2.2.2.2),?_⟩;rcases v with ⟨e,a,t⟩|⟨T,o,w,a,t,u,g,i,f⟩
 .exact .inl ⟨e,s.extBut _ _ (Ne.symm n.1.1) a,s.extBut _ _ (Ne.symm n.1.2.2.1) t⟩
 .exact .inr ⟨T,o,w,s.extBut _ _ (Ne.symm n.1.1) a,s.extBut _ _ f t,u,g,i,f⟩
theorem yB(p:ZAp d z TI TO I M l1 l2)(a:Cv d s.heap z TI TO I M l1 l2 k)(hd:s.heap.get? d=some od)(l:s.heap.IsList l1 xs)(b:s.heap.IsTuple l2 ys)(B:xs[k]? = some x)(C:ys[k]? = some y)
  (P:∀h T,Cv d h z TI TO I M l1 l2 (k+1)->e_ h T x y->T≠d->(∀c o,c ∉ [z,TO,I,M]->s.heap.get? c=some o->h.get? c=some o)->Q (some (.ref T)) { s with heap:=h }) :
  wpAny (model prog w) A (pyNext (.ref z)) Q E s:=by
 have V:=p.nd;have R:=p.l1n;have U:=p.l2n;simp only[List.nodup_cons,ba,dB,du,not_or]at V R U;refine yv a.typeIs ?_;obtain⟨m,g,i,O⟩:=a;rcases O with ⟨e,v,t⟩|⟨T,W,f1,v,t,J,L,N,Z⟩
 .subst e;refine xl v m t g i l b B C (by grind) (by grind) (by grind) (by grind) (by grind) (by grind) (by grind) (by grind) (by grind) (by grind) λh T S F K D G q=>?_
  have fresh:∀c o,s.heap.get? c=some o->T≠c:=λc o f z=>by rw[z,f]at G;cases G
  obtain⟨X,j,_⟩:=g;obtain⟨Y,H,_⟩:=i;exact P h T ⟨q _ _ (by grind) (by grind) (by grind) (by grind) m,F,K,.inr ⟨T,_,false,S,D,fresh _ _ v,fresh _ _ j,fresh _ _ H,fresh _ _ hd⟩⟩ D (fresh _ _ hd) λc o n f=>q c o (λz=>n (by simp[z])) (λz=>n (by simp[z])) (λz=>n (by simp[z])) (λz=>n (by simp[z])) f
 .refine xk v m t g i l b B C (by grind) (by grind) (by grind) (by grind) (by grind) (by grind) (by grind) (by grind) (by grind) λh S F K q=>?_;have dl:d < h.objs.size:=Heap.lt_size (q _ _ (by grind) (by grind) (by grind) hd);have u:∀c o,h.get? c=some o->(h.push { cls:=.type "tuple",data:=.seq #[x,y] }).get? c=some o:=λc o e=>Heap.get?_push_of_some _ e;refine P _ _ ⟨u _ _ (q _ _ (by grind) (by grind) (by grind) m),?_,?_,.inr ⟨T,W,true,u _ _ S,u _ _ (q _ _ J L N t),J,L,N,Z⟩⟩ (Heap.get?_push_size _ rfl) (cO dl) λc o n f=>u _ _ (q c o (λz=>n (by simp[z])) (λz=>n (by simp[z])) (λz=>n (by simp[z])) f)
  .obtain⟨o,e,r⟩:=F;exact⟨o,u _ _ e,r⟩
  .obtain⟨o,e,r⟩:=K;exact⟨o,u _ _ e,r⟩
theorem AY(u:A.handled=none)(p:ZAp d z TI TO j I M l2)(a:Cv d s.heap z TI TO j I M l2 k)(l:s.heap.IsList M xs)(i:xs[k]? = none)
  (v:∀h,(∀c o,c ∉ [z,TO,j,I]->s.heap.get? c=some o->h.get? c=some o)->Q none { s with heap:=h }):wpAny (model prog w) A (pyNext (.ref z)) Q E s:=by
 have S:=p.nd;have H:=p.l1n;simp only[List.nodup_cons,ba,dB,du,not_or]at S H;refine yv a.typeIs ?_;obtain⟨r,t,F,y⟩:=a;rcases y with ⟨e,n,g⟩|⟨T,P,K,n,g,B,C,D,G⟩
 .subst e;exact yz u n r t l i (by grind) (by grind) λh e q n=>by obtain⟨o,b,m⟩:=n;exact⟨e,o,rfl,b,m,v h λc o x f=>q c o (λz=>x (by simp[z])) (λz=>x (by simp[z])) f⟩
 .exact yy u n r g t l i (by grind) (by grind) λh e q ⟨o,b,m⟩=>⟨e,o,rfl,b,m,v h λc o x f=>q c o (λz=>x (by simp[z])) (λz=>x (by simp[z])) f⟩
end
section
variable{prog:Program}{w:World}{K:Type}[DecidableEq K]{t:KeyKind prog w K}{A:Around}{E:VP}{R:Result->Shared->Prop}
inductive ZipsAt(knd:KeyKind prog w K):LV->LV->List (K×Value)->Prop
 |nil {vs:LV}:ZipsAt knd [] vs []
 |cons {key v:Value}{k:K}{us vs:LV}{kvs:List (K×Value)}:knd.is k key=true->ZipsAt knd us vs kvs->ZipsAt knd (key::us) (v::vs) ((k,v)::kvs)
theorem vO(hh:A.handled=none){f:Heap}(p:ZAp d z TI TO i1 i2 l1 l2)(fr:∀c ∈ [d,z,TI,TO,i1,i2],f.get? c=none)(I:f.IsList l1 j)(hl2:f.IsTuple l2 ys) :
  ∀(bO:List (K×Value))(i:Nat)(n:List (K×Value))(s:Shared),(∀b o,f.get? b=some o->s.heap.get? b=some o)->Cv d s.heap z TI TO i1 i2 l1 l2 i->s.heap.DictOf t d n->ZipsAt t (j.toList.drop i) (ys.toList.drop i) bO ->
   ((n++bO).map (·.1)).Nodup->(n++bO).length≤sizeLine->i+bO.length=j.size ->
   (∀g t',(∀b o,f.get? b=some o->g.get? b=some o)->g.DictOf t d (n++bO)->R (.ok (.ret .none)) { s with heap:=g,toks:=t' }) ->
   codeAny (model prog w) A (.builtin "dict.update.loop" ⟨[.ref d,.ref z,rawInt i,.none],[]⟩) R s:=by
 have nd:=p.nd;simp only[List.nodup_cons,ba,dB,du,not_or]at nd;have S:∀b o,f.get? b=some o->b ∉ [d,z,TI,TO,i1,i2]:=λb o e m=>by rw[fr b m]at e;cases e
 have dz:d ∉ [z,TO,i1,i2]:=by simp only[ba,dB,du,not_or];grind
 intro bO;induction bO with
 |nil=>
  intro i n s P l hd Q L U hi h;have G:j[i]? = none:=by simp at hi ⊢;lia
  have y:s.heap.IsList l1 j:=by obtain⟨o,H,r⟩:=I;exact⟨o,P _ _ H,r⟩
  refine codeAny_builtin F.entry_dict_update_loop ?_;rw[Around.under_plainId F.plain_dict_update_loop _];unfold Builtin.«dict.update.loop»;show wpAny _ A.in1 (pyNext (.ref z) >>= _) _ _ s;refine wpAny_bind (AY hh p l y G λg C=>?_);show wpAny _ A.in1 (Builtin.Dict.addKeywords d [] >>= _) _ _ _;rw[List.append_nil]at h;apply wpAny_bind;apply wpAny_pure;apply wpAny_pure;refine h g s.toks (λb o e=>C b o (λm=>S b o e (by simp only[ba,dB,du]at m ⊢;grind)) (P b o e)) ?_;obtain⟨o,T,ep,H,r⟩:=hd;exact⟨o,T,ep,C _ _ dz H,r⟩
 |cons kv bO ih=>
  intro i n s P l hd Q L U hi h;have y:s.heap.IsList l1 j:=by obtain⟨o,H,r⟩:=I;exact⟨o,P _ _ H,r⟩
  have J:s.heap.IsTuple l2 ys:=by obtain⟨o,H,r⟩:=hl2;exact⟨o,P _ _ H,r⟩
  generalize er:j.toList.drop i=us at Q;generalize T:ys.toList.drop i=vs at Q;cases Q with
  |cons hk hps=>
   rename_i B v k us' vs';have hx:j[i]? = some B:=by have:=congrArg (·[0]?) er;simpa using this
   have hy:ys[i]? = some v:=by have:=congrArg (·[0]?) T;simpa using this
   have X:j.toList.drop (i+1)=us':=by rw[<- List.drop_drop,er];rfl
   have Y:ys.toList.drop (i+1)=vs':=by rw[<- List.drop_drop,T];rfl
   obtain⟨od,V,W,M,hdr⟩:=id hd;refine codeAny_builtin F.entry_dict_update_loop ?_;rw[Around.under_plainId F.plain_dict_update_loop _];unfold Builtin.«dict.update.loop»;show wpAny _ A.in1 (pyNext (.ref z) >>= _) _ _ s;refine wpAny_bind (yB p l M y J hx hy λO a za u hTd C=>?_);have kp1:∀b o,f.get? b=some o->O.get? b=some o:=λb o e=>C b o (λm=>S b o e (by simp only[ba,dB,du]at m ⊢;grind)) (P b o e);have hd1:O.DictOf t d n:=⟨od,V,W,C _ _ dz M,hdr⟩;show wpAny _ A.in1 (holding [Value.ref a] _ >>= _) _ _ _;apply wpAny_bind;apply wpAny_holding;apply wpAny_bind;apply wpAny_tryCatch;unfold Builtin.Dict.pairItems;refine wpAny_bind (kO (T:="tuple") ⟨_,u,rfl⟩ ?_);rw[if_pos (by decide)];refine wpAny_bind (wpAny_seqItems (show O.get? a=some _ from u) rfl (wpAny_pure ?_));show wpAny _ A.in1 (holding [B,v] (dictSet d B v)) _ _ _;refine wpAny_holding ?_;refine wpAny_dictSet_pairs (s:={ s with heap:=O }) hk hd1 (λh2 E N=>?_) (by simp at U;lia);have hnk:k ∉ n.map (·.1):=by intro hm;rw[List.map_append,List.nodup_append]at L;exact L.2.2 _ hm _ (by simp) rfl
   have Z:stored n k v=n++[(k,v)]:=by unfold stored;rw[if_neg];intro D;obtain⟨x,hx1,hx2⟩:=nu.mp D;exact hnk (cN.mpr ⟨x,hx1,aS hx2⟩)
   rw[Z]at E;refine wpAny_pure ⟨plainId_quiet F.plain_dict_update_loop _,?_⟩;have kp2:∀b o,f.get? b=some o->h2.get? b=some o:=λb o e=>N.extBut _ _ (λq=>S b o e (by simp[q])) (kp1 b o e);have e1:n++(k,v)::bO=(n++[(k,v)])++bO:=by simp
   rw[e1]at L U h;exact ih (i+1) (n++[(k,v)]) { s with heap:=h2,toks:=s.toks+1 } kp2 (za.but p N) E (X ▸ Y ▸ hps) L U (by simp at hi;lia) λg t' k1 k2=>h g t' k1 k2
end
section
variable{prog:Program}{w:World}{K:Type}[DecidableEq K]{t:KeyKind prog w K}{A:Around}{E:VP}{s:Shared}
theorem uC(l:s.heap.IsList n I)(e:s.heap.IsTuple c M)
  (h:∀x i a TI TO z,(∀b o,s.heap.get? b=some o->x.get? b=some o)->s.heap.objs.size≤i->i < a->a < TI->TI < TO->TO < z->x.IsListIter i n 0->x.IsTupleIter a c 0->e_ x TI (.ref i) (.ref a)->e_ x TO .none .none ->
   gb x z TI TO .none (.bool false)->Q (.ref z) { s with heap:=x }):wpAny (model prog w) A (call (.type "zip") [.ref n,.ref c]) Q E s:=by
 refine callType_new F.called_zip (by decide) (F.typeCall_zip_2 _ _) (F.newCall_zip_2 _ _) (λj=>F.args_object_init_3 j _ _) F.entry_zip_new (yx n c I M) ⟨l,e,λx i a TI TO z k m r t p q v d u g f=>?_⟩;show _/\_;exact⟨⟨_,f,rfl⟩,h x i a TI TO z k m r t p q v d u g f⟩
theorem pG{x:Heap}(Z:A.handled=none)(k0:∀b o,x.get? b=some o->s.heap.get? b=some o)(j:x.IsList l1 xs)(y:x.IsTuple l2 ys)
  (u:x.objs.size≤I) (P:I < M) (B:M < TI) (S:TI < TO) (g:TO < z) (b1:s.heap.IsListIter I l1 0) (b2:s.heap.IsTupleIter M l2 0) (b3:e_ s.heap TI (.ref I) (.ref M)) (b4:e_ s.heap TO .none .none) (i:gb s.heap z TI TO .none (.bool false))
  (hp:ZipsAt t xs.toList ys.toList G) (hn:(G.map (·.1)).Nodup) (hz:G.length≤sizeLine) (hi:G.length=xs.size)
  (h:∀f N,(∀b o,x.get? b=some o->f.get? b=some o)->f.DictOf t s.heap.objs.size G->Q (.ref s.heap.objs.size) { s with heap:=f,toks:=N }) :
  wpAny (model prog w) A (call (.type "dict") [.ref z]) Q E s:=by
 have fresh:(s.heap.push { cls:=.type "dict",data:=.dict #[] }).DictOf t s.heap.objs.size []:=.new s.heap;have d:∀b o,s.heap.get? b=some o->(s.heap.push { cls:=.type "dict",data:=.dict #[] }).get? b=some o:=λb o=>Heap.get?_push_of_some _;have k:z < s.heap.objs.size:=Heap.lt_size i;have H:=kt_code_dict_new (prog:=prog) (w:=w) (A:=A.in1) (E:=E) (s:=s) (Value.ref z) (Q₁:=λv z=>v=.ref s.heap.objs.size/\z={ s with heap:=s.heap.push { cls:=.type "dict",data:=.dict #[] } }) ⟨rfl,rfl⟩;apply callType_codes F.kt_called_dict (F.kt_typeCall_dict_1 (.ref z)) F.entry_dict_init H;rintro _ _ ⟨e,e'⟩;subst e e';generalize s.heap.push { cls:=.type "dict",data:=.dict #[] }=h1 at fresh d;refine⟨fresh.typeIs,F.args_dict_init_2 (.ref s.heap.objs.size) (.ref z),?_⟩;unfold Builtin.«dict.__init__» Builtin.Dict.selfAndRest;apply wpAny_bind;apply wpAny_bind;apply wpAny_notOrdered_dict fresh.typeIs;apply wpAny_pure;show wpAny _ _ (Builtin.Dict.updateFrom "dict.__init__" s.heap.objs.size (.ref z) [] .none) _ _ _;unfold Builtin.Dict.updateFrom;refine wpAny_bind (kO (T:="zip") ⟨_,d _ _ i,rfl⟩ ?_);rw[if_pos (by decide)];refine wpAny_bind (xj (d _ _ i) Z λX tk k2=>?_);rw[if_pos (by rfl)];refine wpAny_bind (wpAny_rule ?_);have q:∀b o,s.heap.get? b=some o->X.get? b=some o:=λb o e=>k2 b o (d b o e);have D:X.DictOf t s.heap.objs.size []:=by obtain⟨o,T,ep,ho,r⟩:=fresh;exact⟨o,T,ep,k2 _ _ ho,r⟩
 refine wpAny_bind (wpAny_pyIter_zip (z:=z) (TI:=TI) (TO:=TO) (f0:=.none) (q _ _ i) ?_);refine wpAny_pure ⟨plainId_quiet F.plain_dict_update_loop _,?_⟩;have J:l1 < x.objs.size:=by obtain⟨o,e,_⟩:=j;exact Heap.lt_size e
 have L:l2 < x.objs.size:=by obtain⟨o,e,_⟩:=y;exact Heap.lt_size e
 have n:∀{a b c:Nat},a < b->b < c->a < c:=λh f=>lu h f;have O:=n P B;have Y:=n O S;have C:=n Y g;have R:=n C k;have U:=n B S;have V:=n U g;have c7:=n V k;have W:=n S g;have c9:=n W k;have ca:=n g k;have low:∀{l c:Nat},l < x.objs.size->x.objs.size≤c->l≠c:=λh f=>bM (cg h f);have ge:∀c ∈ [s.heap.objs.size,z,TI,TO,I,M],x.objs.size≤c:=λc K=>by
  simp only[ba,dB,du]at K;rcases K with rfl|rfl|rfl|rfl|rfl|rfl
  .exact aU u (iK R)
  .exact aU u (iK C)
  .exact aU u (iK O)
  .exact aU u (iK Y)
  .exact u
  .exact aU u (iK P)
 have p:ZAp s.heap.objs.size z TI TO I M l1 l2:=by refine⟨?_,λm=>low J (ge _ m) rfl,λm=>low L (ge _ m) rfl⟩;simp only[List.nodup_cons,ba,dB,du,not_or,List.nodup_nil,not_false_eq_true,and_true];exact⟨⟨cO k,cO c9,cO ca,cO R,cO c7⟩,⟨cO W,cO g,cO C,cO V⟩,⟨bM S,cO O,cO B⟩,⟨cO Y,cO U⟩,bM P⟩
 refine vO (A:=A.in1) (t:=t) (f:=x) Z p (λc K=>?_) j y G 0 [] _ (λb o e=>q b o (k0 b o e)) ⟨q _ _ b3,?_,?_,.inl ⟨rfl,q _ _ i,q _ _ b4⟩⟩ D (by simpa using hp) (by simpa using hn) (by simpa using hz) (by lia) λf N q1 q2=>?_
 .cases e:x.get? c with
  |none=>rfl
  |some o=>exact absurd rfl (low (Heap.lt_size e) (ge c K))
 .obtain⟨o,e,r⟩:=b1;exact⟨o,q _ _ e,r⟩
 .obtain⟨o,e,r⟩:=b2;exact⟨o,q _ _ e,r⟩
 .exact⟨rfl,h f N q1 q2⟩
end
end PySem
namespace Ev
open PySem PySem.Spec PyProof.Rows L2
def se(fa fb:EV):EE:=λL S=>aG (fa L S) λx a=>aG (fb L a) λy h=>match x,y with
 | .lst k,.tup v=>match cw k with
  |some B=>if (B.Nodup/\few k=true/\B.length≤v.length) then some (.ref h.length,h++[.dct B ((v.take B.length).map .p)]) else none
  |none=>none
 |_,_=>none
theorem wd:∀{B:List bz}{s i:LV}{x:List V},aM (B.map kV) s->aM x i->B.length≤x.length->ZipsAt (bH n w) s i (B.zip i)/\L2.KV (B.zip x) (B.zip i)
 | [],_,i,x,h,_,_=>by cases h;exact⟨.nil,.nil⟩
 |k::B,_,_,[],h,_,l=>absurd l (by simp)
 |k::B,_,_,y::x,h,e,l=>by
  cases h with
  |cons r t=>
   cases e with
   |cons f c=>obtain⟨a,b⟩:=wd (n:=n) (w:=w) t c (by simpa using l);exact⟨.cons (mj r) a,.cons ⟨rfl,f⟩ b⟩
theorem lC:∀{xs:List α}{ys:List n},xs.length≤ys.length->(xs.zip ys).map (·.1)=xs/\(xs.zip ys).map (·.2)=ys.take xs.length
 | [],ys,_=>by simp
 |x::xs,[],h=>absurd h (by simp)
 |x::xs,y::ys,h=>by obtain⟨a,b⟩:=lC (xs:=xs) (ys:=ys) (by simpa using h);simp[a,b]
section
variable{X:Cx}{a b:Expr}{fa fb:EV}{p N O Y:Pos}
theorem Ds(hc:X.calm=true)(gd:Gl X "dict")(md:X.mg "dict"=none)(gz:Gl X "zip")(mz:X.mg "zip"=none)(ha:PE X a (tV X.K fa))(hb:PE X b (tV X.K fb))(hs:starEach [a,b] X.env=[(false,eval a X.env),(false,eval b X.env)])(R:starEach [b] X.env=[(false,eval b X.env)])(hz:bootBuiltins "zip"=some (.type "zip")) :
  PE X (.Call (.Name "dict" p) [.Call (.Name "zip" N) [a,b] [] Y] [] O) (tE X.K (se fa fb)):=by
 intro pins s σ H Q I ⟨F,m,L,S,d,S',r,l,q,k⟩;obtain⟨x,S1,e1,q⟩:=ai q;obtain⟨y,S2,e2,q⟩:=ai q;have hh:X.A.handled=none:=I.ok.hd hc;refine ku (kB I gd md PyProof.Rows.boot_dict ?_ (by decide) (by decide));refine nC (Calls.spliced_cons ?_) rfl rfl;refine ku (kB I gz mz hz ?_ (by decide) (by decide));refine nC ?_ (by rw [hs,R]) (by rw [R];rfl);rw [hs];refine Calls.spliced_cons (cV (ha pins s σ H (fun v f=>∃e K,Stp F m H e K f/\Rel X.K e f K S1/\RP X.K e f x v) I ⟨F,m,L,S,x,S1,r,l,e1,fun v e K f s1 r1 p1=>⟨e,K,s1,r1,p1⟩⟩) fun u s1 ⟨v,f,I1,ru,e,K,V,r1,p1⟩=>
  Calls.spliced_cons (cV (hb pins s1 σ f (λv A=>∃n C,Stp e K f n C A/\Rel X.K n A C S2/\RP X.K n A y v) I1 ⟨e,K,L,S1,y,S2,r1,l.mono V,e2,λv n C A D r2 N=>⟨n,C,D,r2,N⟩⟩) λu2 D ⟨v2,A,E,ru2,n,C,W,r2,N⟩=>kt ?_))
 cases x with
 |lst ks=>
  cases y with
  |tup vs=>
   dsimp only at q;cases ek:cw ks with
   |none=>rw[ek]at q;cases q
   |some B=>
    rw[ek]at q;dsimp only at q;split at q
    .rename_i c;cases q;obtain⟨ax,xs,rfl,hq,rp⟩:=RP.mono W p1;obtain⟨ay,ys,rfl,ta,rq⟩:=N;cases (show u=Value.ref ax from ru);cases (show u2=Value.ref ay from ru2);obtain⟨z1,T,n1,rx,M,ex⟩:=E.lstM hq.2;obtain⟨i,ry,U,hzy⟩:=E.tuple ta.sq;have exs:=iy ek rp;subst exs;have j:B.length≤ys.length:=by rw[<- rq.length];exact c.2.2
     obtain⟨za,zk⟩:=wd (n:=X.prog) (w:=X.w) rx ry j;have hl2:B.length≤i.length:=by rw[<- ry.length];exact j
     obtain⟨Z,zf2⟩:=lC (xs:=B) (ys:=ys) j;obtain⟨P,_⟩:=lC (xs:=B) (ys:=i) hl2;have G:(B.zip i).length=T.toArray.size:=by have:=congrArg List.length P;rw[a7]at this;rw[this,List.size_toArray,<- M,a7]
     have hkz:(B.zip i).length≤sizeLine:=by rw[G,List.size_toArray,<- M];exact z1
     have J:D.heap.IsList ax T.toArray:=⟨_,ex,rfl,n1,rfl⟩;refine uC J U λh i1 i2 TI TO z k0 a1 a2 a3 a4 a5 b1 b2 b3 b4 b5=>kt ?_;refine pG (t:=bH X.prog X.w) (s:={ D with heap:=h }) (x:=D.heap) hh k0 J U a1 a2 a3 a4 a5 b1 b2 b3 b4 b5 (by simpa using za) (by rw[P];exact c.1) hkz G λh'' t' k1 dd=>?_;have g:D.heap.objs.size≤h.objs.size:=iK (ly a1 (lu a2 (lu a3 (lu a4 (lu a5 (Heap.lt_size b5))))));have hf:A h.objs.size=none:=E.hok.fresh g;have hsm:(h.objs.size == sysModules)=false:=by have:=E.big;simp only[kx];exact cO (cg this g)
     have hkv:(B.zip ys).length≤sizeLine:=by have e1:=congrArg List.length Z;have e2:=congrArg List.length P;rw[a7]at e1 e2;lia
     have I3:=E.laid (a:=h.objs.size) (o:=.dK (B.zip ys)) (t':=t') k1 g ⟨hkv,hsm,_,zk,dd⟩;refine⟨.ref h.objs.size,_,I3,rfl,k (.ref h.objs.size) n (C++[h.objs.size]) _ (V.trans (W.trans (fw hf))) (r2.own hf ⟨_,aE,Z,?_⟩) ⟨h.objs.size,rfl,?_⟩⟩
     .rw [zf2,List.map_take];exact(dt.mono (fw hf) (dt.ofP rq)).take _
     .rw [<- r2.len,fK (Nat.le_refl _)];simp
    .cases q
  |_=>cases q
 |_=>cases y<;>cases q
end
def yr(P:Program)(w:World):yt:=λt H s E e h=>∃(a:Addr)(c n:Value)(x:Hp)(B:Heap),e=.ref a/\h.os=s.os/\AllBare h.gens/\Un (kf t) [] H x s.heap h.heap/\jk P w x h.heap/\x a=none /\
 (∀b o,s.heap.get? b=some o->b ∉ kf t->∃k,B.get? b=some k)/\(∀b o,s.heap.get? b=some o->H b=none->b ∉ kf t->B.get? b=some o)/\(∀b u o,x b=some u->h.heap.get? b=some o->B.get? b=some o) /\
 Heap.FlyingW B t a c n h.heap/\E c none x
section
variable{X:Cx}{pins:PN}{σ:L2.St}{H:Hp}{s:Shared}
structure Leaves(X:Cx)(E:XK):Prop where
 ex:X.ex=[]
 stk:X.stack=X.env::X.outer
 frm:X.env.frame=some X.env.locals
 xe:X.xe=λe s'=>wpAny (model X.prog X.w) X.A (leaving X.env e) (λ_ s''=>yr X.prog X.w X.outer X.H₀ X.s₀ E e s'') (λe' s''=>yr X.prog X.w X.outer X.H₀ X.s₀ E e' s'') s'
theorem Leaves.mem(l:Leaves X E)(b:Addr):b ∈ kf X.stack↔b=X.env.locals\/b ∈ X.fs:=by rw[l.stk];unfold kf;rw[qG,l.frm];exact ba
theorem Leaves.old(l:Leaves X E)(I:Inv X pins σ H s)(e:X.s₀.heap.get? b=some o)(n:b ∉ X.fs):b ∉ kf X.stack:=λz=>by
 rcases(l.mem b).mp z with rfl|z
 .exact absurd (Heap.lt_size e) (Nat.not_lt.mpr I.ok.above)
 .exact n z
theorem wn{B:Heap}(I:Inv X pins σ H s)(l:Leaves X E)(u:Un (kf X.stack) [] H M s.heap h1)(y:∀b o,s.heap.get? b=some o->b ∉ kf X.stack->∃g,B.get? b=some g)(O:∀b o,s.heap.get? b=some o->H b=none->b ∉ kf X.stack->B.get? b=some o)
  (U:B.StaysIn c) (r:h1.UpToSlots c):Un (kf X.outer) [] X.H₀ M X.s₀.heap c:=by
 have x:Un X.fs [] X.H₀ H X.s₀.heap s.heap:=by have:=I.base;rw[l.ex]at this;exact this
 have w:∀b o,X.s₀.heap.get? b=some o->X.H₀ b=none->b ∈ X.fs->∃r,c.get? b=some { o with slots:=r }:=λb o e n h=>by
  obtain⟨t,a⟩:=x.slot b o e n h (by simp);have P:=x.free b o e n (by simp);obtain⟨C,k⟩:=u.slot b _ a P ((l.mem b).mpr (.inr h)) (by simp);have A:∀q,o.data≠.fields q:=λq z=>by obtain⟨_,g,f,d⟩:=I.ok.funs.mem h;rw[e]at f;cases f;exact d q z
  obtain⟨p,S⟩:=r b _ k A;exact⟨p,S⟩
 refine⟨λb o e n h _=>?_,λb o e n h _=>w b o e n h,λb o e n D=>?_,λb o e _=>?_,λb j e=>u.tups b j (x.tups b j e),λb o v e=>u.frzs b o v (x.frzs b o v e),λb ps e=>?_⟩
 .exact U b o (O b o (x.keep b o e n h (by simp)) (x.free b o e n (by simp)) (l.old I e h))
 .obtain⟨m,a⟩:=x.there b o e (by simp);exact u.free b m a (x.free b o e n (by simp)) (by simp)
 .by_cases h:b ∈ X.fs
  .obtain⟨t,a⟩:=w b o e (I.ok.frf b h) h;exact⟨_,a⟩
  .obtain⟨m,a⟩:=x.there b o e (by simp);obtain⟨i,k⟩:=y b m a (l.old I e h);exact⟨i,U b i k⟩
 .obtain⟨F,a⟩:=x.tbls b ps e;obtain⟨K,k⟩:=u.tbls b _ a;exact⟨F++K,by rw[k,Array.append_assoc]⟩
theorem oq{B:Heap}(x:jk X.prog X.w n k)(Y:∀b u o,n b=some u->k.get? b=some o->B.get? b=some o)(U:B.StaysIn d):jk X.prog X.w n d:=λb u e=>
 (x b u e).stay (fun c v h q=>U c v (by
  rcases h with rfl|h
  .exact Y _ u v e q
  .exact Y c _ v h q)) (λ_ q=>q) λ_ _ q=>q
theorem leave_new(l:Leaves X E)(I:Inv X pins σ H s)(m:Heap.MadeExcOf s.heap j e c M)(q:E c none H):X.xe (.ref e) { s with heap:=j }:=by
 rw[l.xe];have r:X.A.frames=some (X.env::X.outer):=by rw[<- l.stk];exact I.ok.frames
 have i:∀b o,s.heap.get? b=some o->b ∉ kf X.stack->(PySem.W.hideAll s.heap (kf X.stack)).get? b=some o:=λb o e n=>PySem.W.hideAll_get _ e n;have trk:∀b u,H b=some u->b ∉ kf X.stack:=λb u e z=>by rw[I.stkFree b z]at e;cases e
 have K:s.heap.FunFrames (PySem.W.hideAll s.heap (kf X.stack)) (X.env::X.outer):=by rw[<- l.stk];exact PySem.W.funFrames_hide I.stack λk F b S=>lx.mpr ⟨k,F,S⟩
 refine wpAny_leaves_madeW r l.frm (λb o z=>PySem.W.of_hideAll _ z) K m λy t f _ _ P=>?_;have p:s.heap.UpToSlots y:=(Heap.UpToSlots.of_keeps m.keeps).trans P;have d:Un (kf X.stack) [] H H s.heap s.heap:=Un.kept λ_ _ z=>z;have u:=wn I l d (λb o z n=>⟨o,i b o z n⟩) (λb o z _ n=>i b o z n) f.1 p;have Y:∀b u o,H b=some u->s.heap.get? b=some o->(PySem.W.hideAll s.heap (kf X.stack)).get? b=some o:=λb u o z h=>i b o h (trk b u z);have g:Un X.fs [] X.H₀ H X.s₀.heap s.heap:=by have:=I.base;rw[l.ex]at this;exact this
 refine⟨e,c,.ref t,H,_,rfl,I.os,I.bare,u,oq I.hok Y f.1,vG I m.new,λb o z n=>?_,λb o z h n=>?_,λb v o z h=>?_,f,q⟩
 .obtain⟨x,a⟩:=g.there b o z (by simp);exact⟨x,i b x a (l.old I z n)⟩
 .exact i b o (g.keep b o z h n (by simp)) (l.old I z n)
 .obtain⟨x,a⟩:=vn (I.hok b v z);have w:=Y b v x z a;rw[f.1 b x w]at h;cases h;exact w
theorem zP(l:Leaves X E)(I:Inv X pins σ H s)(S:yr X.prog X.w X.stack H s j e M)(q:∀c h,j c none h->E c none h):X.xe e M:=by
 rw[l.xe];obtain⟨a,c,i,h,B,rfl,os,r,un,k,y,d,O,Y,g,F⟩:=S;have p:X.A.frames=some (X.env::X.outer):=by rw[<- l.stk];exact I.ok.frames
 rw[l.stk]at g;refine wpAny_leaves_onW p l.frm g λP f K=>?_;have u:Un X.fs [] X.H₀ H X.s₀.heap s.heap:=by have:=I.base;rw[l.ex]at this;exact this
 refine⟨a,c,i,h,B,rfl,os.trans I.os,r,wn I l un d O f.1 K,oq k Y f.1,y,λb o z n=>?_,λb o z x n=>?_,λb v o z x=>?_,f,q c h F⟩
 .obtain⟨m,t⟩:=u.there b o z (by simp);exact d b m t (l.old I z n)
 .exact O b o (u.keep b o z x n (by simp)) (u.free b o z x (by simp)) (l.old I z n)
 .obtain⟨m,t⟩:=vn (k b v z);have w:=Y b v m z t;rw[f.1 b m w]at x;cases x;exact w
end
noncomputable abbrev jC(X:Cx)(e:Value):Cx:={ X with A:=X.A.mark (some e),calm:=false,xe:=λ_ _=>False }
section
variable{X:Cx}{pins:PN}{σ:L2.St}{H:Hp}{s:Shared}
theorem pO(I:Inv X pins σ H s)(e:Value):Inv (jC X e) pins σ H s:=
 ⟨⟨I.ok.mod,I.ok.kind,I.ok.glob,I.ok.blt,I.ok.above,I.ok.inj,I.ok.has,I.ok.cab,(λz=>nomatch z),I.ok.frames,I.ok.stk,I.ok.exf,I.ok.bs,I.ok.bsz,I.ok.noex,I.ok.exfs,I.ok.funs,I.ok.frf⟩,I.os,I.bare,I.base,I.loc,I.cell,I.free,I.freeC,I.pin,I.hok,I.len⟩
theorem vd(ok:X.Ok)(I:Inv (jC X e) pins σ H s):Inv X pins σ H s:=⟨ok,I.os,I.bare,I.base,I.loc,I.cell,I.free,I.freeC,I.pin,I.hok,I.len⟩
theorem Be{B:Heap}(u:Un fs [] H q k d)(t:∀b ∈ fs,H b=none/\∃o,k.get? b=some o/\∀i,o.data≠.fields i)(r:∀b o,k.get? b=some o->b ∉ fs->∃v,B.get? b=some v)(O:∀b o,k.get? b=some o->H b=none->b ∉ fs->B.get? b=some o)
  (U:B.StaysIn c) (s:d.UpToSlots c):Un fs [] H q k c:=by
 have f:∀b o,k.get? b=some o->b ∈ fs->∃s,c.get? b=some { o with slots:=s }:=λb o e h=>by obtain⟨n,j,x,p⟩:=t b h;rw[e]at x;cases x;obtain⟨w,x⟩:=u.slot b o e n h (by simp);obtain⟨g,a⟩:=s b _ x p;exact⟨g,a⟩
 refine⟨λb o e n h _=>U b o (O b o e n h),λb o e n h _=>f b o e h,u.free,λb o e _=>?_,u.tups,u.frzs,u.tbls⟩;by_cases h:b ∈ fs
 .obtain⟨w,x⟩:=f b o e h;exact⟨_,x⟩
 .obtain⟨m,a⟩:=r b o e h;exact⟨m,U b m a⟩
theorem xV(I:Inv X pins σ H s)(g:X.s₀.heap.get? a=none)(i:H a=none)(L:a≠X.env.locals)(C:∀x c,X.env.cells.lookup x=some c->c≠a)(j:∀p ∈ X.pn++pins,p.1≠a)(w:cf X.prog X.w (bW H a u) s.heap a u):Inv X pins σ (bW H a u) s:=by
 have h:∀b v,H b=some v->b≠a:=λb v e z=>by rw[z,i]at e;cases e
 refine⟨I.ok,I.os,I.bare,⟨I.base.keep,I.base.slot,λb o e n l=>?_,I.base.there,λb t e=>?_,λb o v e=>?_,λb ps e=>?_⟩,I.loc,I.cell,?_,λx c e=>?_,λp m=>?_,λb v e=>?_,I.len⟩
 .rw [ao (λz=>by rw[z,g]at e;cases e)];exact I.base.free b o e n l
 .have:=I.base.tups b t e;rw[ao (h _ _ this)];exact this
 .have:=I.base.frzs b o v e;rw[ao (h _ _ this)];exact this
 .obtain⟨more,k⟩:=I.base.tbls b ps e;exact⟨more,by rw[ao (h _ _ k)];exact k⟩
 .rw [ao (Ne.symm L)];exact I.free
 .rw [ao (C x c e)];exact I.freeC x c e
 .obtain⟨k,d,r⟩:=I.pin p m;exact⟨k,by rw[ao (j p m)];exact d,r⟩
 .by_cases f:b=a
  .subst f;rw[aE]at e;cases e;exact w
  .rw [ao f]at e;exact(I.hok b v e).stay (λ_ _ _ q=>q) (λc q=>by rw[ao (h _ _ q)];exact q) λc t q=>by rw[ao (h _ _ q)];exact q
theorem Ae{O:Nat}(I:Inv X pins σ H s)(N:X.N.Nodup)(A:X.N[i]? = some n)(C:∀(j:Nat) (x:Str) (w:V),X.N[j]? = some x->σ[j]? = some (some w)->Db X.env.scope x->∃u,RelV w u/\Look X.env s.heap m x u)
  (P:M.Ns X.env.locals (λx=>if x=n then h else m x)) (a:Heap.SameBut X.env.locals s.heap M):Inv X pins (σ.set i none) H { s with heap:=M,toks:=O }:=by
 have L:∀b o,X.s₀.heap.get? b=some o->b≠X.env.locals:=λb o e=>bM (cg (Heap.lt_size e) I.ok.above);have t:i < σ.length:=by rw[I.len];exact(List.getElem?_eq_some_iff.mp A).1
 refine⟨I.ok,I.os,I.bare,⟨λb o e n F v=>(a.2 b (L b o e)).trans (I.base.keep b o e n F v),λb o e n F v=>?_,I.base.free,λb o e v=>?_,I.base.tups,I.base.frzs,I.base.tbls⟩,⟨_,P,λj y w f g B=>?_⟩,λy c e=>?_,I.free,I.freeC,λp D=>?_,λb w e=>?_,by simpa using I.len⟩
 .obtain⟨J,f⟩:=I.base.slot b o e n F v;exact⟨J,(a.2 b (L b o e)).trans f⟩
 .obtain⟨G,f⟩:=I.base.there b o e v;exact⟨G,(a.2 b (L b o e)).trans f⟩
 .by_cases K:j=i
  .subst K;rw[dX t]at g;cases g
  .rw [aX (Ne.symm K)]at g;obtain⟨u,r,q⟩:=C j y w f g B;refine⟨u,r,?_⟩;rcases q with ⟨k,e⟩|⟨k,c,e,z⟩
   .exact .inl ⟨k,by have S:¬y=n:=λz=>K (nX N f (by rw[z];exact A));show(if y=n then h else m y)=some u;rw[if_neg S];exact e⟩
   .exact .inr ⟨k,c,e,z.sameBut a (I.cne y c e)⟩
 .obtain⟨Q,z⟩:=I.cell y c e;exact⟨Q,z.sameBut a (I.cne y c e)⟩
 .obtain⟨e,n,S,E,d⟩:=I.pin p D;exact⟨(a.2 p.1 S).trans e,n,S,E,d⟩
 .refine (I.hok b w e).stay (λc z l q=>(a.2 c ?_).trans q) (λ_ q=>q) λ_ _ q=>q;rintro rfl;rcases l with rfl|l
  .rw [I.free]at e;cases e
  .rw [I.free]at l;cases l
theorem zT{n:Hp}{B x:Heap}{h:Shared}(I:Inv X pins σ H s)(os:h.os=s.os)(a:AllBare h.gens)(un:Un (kf X.stack) [] H n s.heap h.heap)(k:jk X.prog X.w n h.heap)(c:∀b o,s.heap.get? b=some o->b ∉ kf X.stack->∃m,B.get? b=some m)(O:∀b o,s.heap.get? b=some o->H b=none->b ∉ kf X.stack->B.get? b=some o)
  (Y:∀b u o,n b=some u->h.heap.get? b=some o->B.get? b=some o) (U:B.StaysIn x) (l:h.heap.UpToSlots x):Inv X pins σ n { h with heap:=x }:=by
 have f:∀b ∈ kf X.stack,H b=none/\∃o,s.heap.get? b=some o/\∀v,o.data≠.fields v:=λb e=>⟨I.stkFree b e,(I.stack.mem e).2⟩;exact I.call' (z:={ h with heap:=x }) (N:=[]) os (Be un f c O U l) (oq k Y U) a λ_ z=>nomatch z
theorem AH{E':XK}{e:Value}{s1:Shared}{c n:Str}{C2:Addr}{i:Nat}{b0:Stmt}{g:List Stmt}{np P:Pos}{bO:List ExceptHandler}{D:Ends}{ts:Value->TS}(K:X.stack=X.env::X.outer)(R:X.env.frame=some X.env.locals)(ex:X.ex=[])(hN:X.N.Nodup)(I:Inv X pins σ H s)(hx:yr X.prog X.w X.stack H s E' e s1)
  (gl:Gl X c) (mgc:X.mg c=some (.ref C2)) (hdb:(c == ("__debug__":Str))=false) (hi:X.N[i]? = some n) (hl:X.env.scope.names.lookup n=some .local) (hb:∀e,jW (jC X e) (b0::g) (ts e))
  (k:∀(a:Addr) (l:Value) (N:Hp),e=.ref a->E' l none N->N a=none->∃C,l=.ref C/\PySem.W.exmOne X.K l (.ref C2)=some true /\
   ts e { nx:=λh d=>D.nx (h.set i none) d,rt:=D.rt,bk:=λh d=>D.bk (h.set i none) d,ct:=λh d=>D.ct (h.set i none) d } (σ.set i (some (.ref a))) (bW N a (.ext (mr a C)))) :
  wpAny (model X.prog X.w) X.A (noteFrame e X.env) (λ_ s2=>wpAny (model X.prog X.w) X.A (setFlight e none) (λ_ s3=>wpAny (model X.prog X.w) X.A (handleBy e X.env (.ExceptHandler (some (.Name c np)) (some n) (b0::g) P::bO)) (SP X pins D) X.xe s3) X.xe s2) X.xe s1:=by
 obtain⟨a,l,a0,N,B,rfl,os,Q,un,hok,hn,c0,O,Y,fl,qe⟩:=hx;obtain⟨C,rfl,exm,go⟩:=k a l N rfl qe hn;have J:=λh1 U sl=>zT (x:=h1) I os Q un hok c0 O Y U sl;have hfr:X.A.frames=some (X.env::X.outer):=by rw[<- K];exact I.ok.frames
 rw[K]at fl;refine wpAny_looks_onW hfr R fl λh4 G sl4=>?_;refine wpAny_landsW G λh5 E S=>?_;have S:=sl4.trans S;have I5:=J h5 E.1 S;refine wpAny_handleBy_cons (codeAny_handlers_test (j3 (pO I5 (.ref a)) gl mgc ?_ hdb)) (by intro z;cases z);obtain⟨ob,hob,Z⟩:=E.there;have LT:PySem.W.Looks (model X.prog X.w) h5 (typeOf (.ref a)) (.ref C):=by rw[<- Z];exact(PySem.W.Looks.ld hob).andThen .now
 refine(PySem.W.exm_one (M:=model X.prog X.w) I5.kIn LT exm).here ?_;rw[if_pos rfl];refine codeAny_handlers_suite_as (lands_againW E λh6 y sl6=>?_);have I6:=J h6 y.1 (S.trans sl6);obtain⟨oe,vs,T,oT,tvs,he,⟨V,_⟩,hd,_⟩:=y.2.2.2;have F:a ∉ kf X.stack:=λz=>by rw[K]at z;obtain⟨_,o,W,nf⟩:=y.2.2.1.mem z;rw[he]at W;cases W;exact nf vs hd
 have A:s.heap.get? a=none:=by
  cases q:s.heap.get? a with
  |none=>rfl
  |some o=>obtain⟨o',z⟩:=c0 a o q F;rw[y.2.1]at z;cases z
 have not0:X.s₀.heap.get? a=none:=by
  cases q:X.s₀.heap.get? a with
  |none=>rfl
  |some o=>obtain⟨o',z⟩:=I.base.there a o q (by rw[ex];simp);rw[A]at z;cases z
 have I7:=xV (u:=.ext (mr a C)) I6 not0 hn (fun z=>F (by rw [K,z];exact lx.mpr ⟨X.env,.head _,R⟩)) (fun x c' q z=>by
   obtain⟨v,o,W,hv⟩:=I6.cell x c' q;rw[z,he]at W;cases W;rw[hd]at hv;cases hv) (λp hp z=>by
   have:=(I.pin p hp).1;rw[z,A]at this;cases this) ⟨⟨oe,he,V⟩,⟨oe,he⟩,λh1 h2 ⟨o,q1,q2⟩ U=>⟨o,U o q1,q2⟩⟩
 refine lH I7 hN hi (.inl hl) (v:=.ref a) (u:=.ref a) rfl (λs8 I8 _=>?_) (.inr hl);refine wpAny_mono (hb (.ref a) pins s8 _ _ _ (pO I8 (.ref a)) go) (λf s9 h9=>?_) λ_ _ z=>z.elim;have hp:(X.env.scope.kind == .class ||(X.env.scope.kind == .module && X.env.locals != X.env.globals))=false:=by rw[I.ok.kind];rfl
 have j:∀{h:L2.St}{d:Hp},Inv (jC X (.ref a)) pins h d s9->(∀b,Inv X pins (h.set i none) d b->SP X pins D f b)->wpAny (model X.prog X.w) X.A (do bindName X.env n .none;unbindBehindTheSuite X.env n P) (λ_ b=>SP X pins D f b) X.xe s9:=λw k9=>by have w:=vd I.ok w;obtain⟨m,hm,L⟩:=id w.loc;exact wpAny_nameGoes_keeps hl hm hp λh' v hn' hs=>k9 _ (Ae w hN hi L hn' hs)
 cases f with
 |next=>obtain⟨h,d,w,q⟩:=h9;exact j w λb t=>⟨_,_,t,q⟩
 |brk=>obtain⟨h,d,w,q⟩:=h9;exact j w λb t=>⟨_,_,t,q⟩
 |cont=>obtain⟨h,d,w,q⟩:=h9;exact j w λb t=>⟨_,_,t,q⟩
 |ret u=>obtain⟨v,h,d,w,r,q⟩:=h9;exact j w λb t=>⟨v,_,_,t,r,q⟩
end
noncomputable abbrev EX:=Lc->aD->Option (Str×Lc×aD)
noncomputable abbrev GX:=List D->aD->Option (Str×aD)
def sV(X:Cx)(c:Str)(σ:L2.St)(H:Hp):Prop:=∀C,PySem.W.nsIn X.K mainGlobals c=some (some (.ref C)) ->
 ∀(pins:PN)(h:Hp)(s:Shared)(E:XK)(e:Value)(a:Shared),Inv X pins σ h s->yr X.prog X.w X.stack h s E e a->(∀l x,E l none x->l=.ref C/\x=H)->X.xe e a
def I_ (X:Cx) (c:Str) (σ:L2.St) (H:Hp):Prop:=(∀C,PySem.W.nsIn X.K mainGlobals c=some (some (.ref C)) ->
 ∀(pins:PN)(s:Shared)(h:Heap)(e:Addr)(v:LV),Inv X pins σ H s->Heap.MadeExcOf s.heap h e (.ref C) v->X.xe (.ref e) { s with heap:=h })/\sV X c σ H
inductive tXI(X:Cx)(f:EX)(σ:L2.St)(H:Hp):Prop
 |mk (F:Aa) (m:List Addr) (L:Lc) (S:aD) (c:Str) (L':Lc) (S':aD) (h0_:Rel X.K F H m S) (h1_:RL X.K F H m σ L) (h2_:f L S=some (c,L',S')) (h3_:∀σ' F' m' H',Stp F m H F' m' H'->Rel X.K F' H' m' S'->RL X.K F' H' m' σ' L'->I_ X c σ' H'):tXI X f σ H
noncomputable def tX(X:Cx)(f:EX):TS:=λ_ σ H=>tXI X f σ H
inductive tXEI(X:Cx)(f:EX)(σ:L2.St)(H:Hp):Prop
 |mk (F:Aa) (m:List Addr) (L:Lc) (S:aD) (c:Str) (L':Lc) (S':aD) (h0_:Rel X.K F H m S) (h1_:RL X.K F H m σ L) (h2_:f L S=some (c,L',S')) (h3_:∀σ' F' m' H',Stp F m H F' m' H'->Rel X.K F' H' m' S'->RL X.K F' H' m' σ' L'->sV X c σ' H'):tXEI X f σ H
noncomputable def GL(X:Cx)(f:EX):TE:=λσ H _=>tXEI X f σ H
def Jd(X:Cx)(f:EX):TS:=λ_ σ H=>GL X f σ H λ_ _=>True
noncomputable def Cz:EX:=λ_ _=>none
noncomputable def yE(f0:ES)(f g:EX):EX:=λL S=>match f0 L S with
 |some (.nx,h,x)=>g h x
 |some _=>none
 |none=>f L S
noncomputable def qX(c:Str):EX:=λL S=>some (c,L,S)
def jA(g:GX)(a:l8):EX:=λL S=>aG (a L S) λd h=>(g d h).map λz=>(z.1,L,z.2)
section
variable{X:Cx}{U:Stmt}{bO bs cs:List Stmt}{e:Expr}{T:Ab}{J:Pos}{f0:ES}{f g:EX}
theorem JZ:jW X bO (tX X Cz):=λ_ _ _ _ _ _ ⟨_,_,_,_,_,_,_,_,_,q,_⟩=>nomatch q
theorem Dy:PS X U (tX X Cz):=λ_ _ _ _ _ _ ⟨_,_,_,_,_,_,_,_,_,q,_⟩=>nomatch q
theorem Dk(d:PS X U (jn X.K f0))(w:PS X U (tX X f))(u:jW X bO (tX X g)):jW X (U::bO) (tX X (yE f0 f g)):=λpins s σ H D I z=>by
 obtain⟨F,m,L,S,c,x,e,r,l,q,k⟩:=z;unfold yE at q;split at q
 .rename_i a n v;exact kU d u pins s σ H D I ⟨F,m,L,S,.nx,a,n,r,l,v,λC b y E A K i=>⟨b,y,a,n,c,x,e,K,i,q,λh t o p B P j=>k h t o p (A.trans B) P j⟩⟩
 .cases q
 .exact kU w (lJ (X:=X)) pins s σ H D I ⟨F,m,L,S,c,x,e,r,l,q,k⟩
theorem Gd(h:PS X U (tX X f)):jW X [U] (tX X f):=rk h
noncomputable abbrev KY:LV:=[.type "ValueError",.type "Exception",.type "BaseException",.type "object"]
def Lv(K:FG)(C:Addr):Prop:=∃t N n q bs hd f sub a c d k h x e s,K.lookup C=some ⟨.type "type",d,.cls ⟨n,bs,.ref C::t,N,q,hd,f,sub,a,c,false⟩,#[k,h,x,e,some (.builtin "ValueError.__new__"),s]⟩ /\
 PySem.W.tailIn K KY t=true/\PySem.W.nsOkIn K N=true/\PySem.W.nsIn K N "__init__"=some none
theorem A7(a:X.calm=true)(f:Gl X c)(P:PySem.W.nsIn X.K mainGlobals c=some (some (.ref C)))(g:X.mg c=some (.ref C))(q:Lv X.K C)(h:(c == ("__debug__":Str))=false) :
  PS X (.Raise (some (.Call (.Name c np) [] [] n)) none J) (tX X (qX c)):=λpins s σ H D I z=>by
 obtain⟨F,m,L,S,U,Q,R,r,l,A,k⟩:=z;cases A;have t:=(k σ F m H .refl r l).1 C P;obtain⟨O,N,K,G,bs,hd,M,sub,b,o,d,w,u,i,j,y,lk,B,x,E⟩:=q;have T:=PySem.W.tail_of_in I.kIn B;exact wpAny_Raise_call_subT (C:=C) (nm:=K) (q:=G) (N:=N) (bs:=bs) (bm:=O) (hdct:=hd) (sn:=M) (sub:=sub) (ab:=b) (col:=o) (dd:=d) (k0:=w) (k1:=u) (k2:=i) (k3:=j) (k5:=y) PySem.F.excBase_ValueError
  (T.hasType PySem.F.excBase_ValueError.hasBase) (I.ok.hd a) rfl (PySem.W.nsMap_none_of_in I.kIn x E) (j3 I f g ⟨rfl,evalArgs_empty ⟨rfl,Nat.zero_le _,I.kIn _ _ lk,.of_isNs (PySem.W.isNs_of_in I.kIn x),T,λp e v=>t pins s p e [] I v⟩⟩ h)
inductive spEI(K:FG)(gx:GX)(vs:List V)(H:Hp)(E:XK):Prop
 |mk (F:Aa) (m:List Addr) (ds:List D) (S:aD) (c:Str) (S':aD) (h0_:Rel K F H m S) (h1_:dt K F H m ds vs) (h2_:gx ds S=some (c,S')) (h3_:∀F' m' H',Stp F m H F' m' H'->Rel K F' H' m' S'->∃C,PySem.W.nsIn K mainGlobals c=some (some (.ref C))/\E (.ref C) none H'):spEI K gx vs H E
noncomputable def Fz(K:FG)(g:GX):Sp:=λv H _ E=>spEI K g v H E
def AF(K:FG)(g:GX):Prop:=∀d S c h,g d S=some (c,h)->∃C,PySem.W.nsIn K mainGlobals c=some (some (.ref C))
theorem Dl(G:FnOk X.prog X.w X.K X.mg X.base (yr X.prog X.w) k fa fd ps (Fz X.K M))(cl:AF X.K M)(hr:Room k X.A)(hg:Gl X x)(hm:X.mg x=some (.ref fa))(hk:PySem.W.keepIn X.K (.ref fa)=true)(hb:Binds X.K fd ps [])
  (ha:PA X (e::T) (u_ X.K fs)) (K:(x == ("__debug__":Str))=false) (he:starEach (e::T) X.env=(false,eval e X.env)::starEach T X.env) (A:(backTo J (starEach T X.env)).any (·.1)=false) :
  PE X (.Call (.Name x p) (e::T) [] J) (GL X (jA M fs)):=λpins s σ H Q I D=>by
 obtain⟨F,m,L,S,c,L',S',r,l,q,kk⟩:=D;obtain⟨y,i,e1,q⟩:=ai q;obtain⟨⟨O,U⟩,V,q⟩:=fu.mp q;cases q;obtain⟨C,W⟩:=cl y i O U V;refine ku (j3 I hg hm ?_ K);refine qF (h₀:=X.base) I.ok.mod.kin hk (cV (ha J pins s σ H (λR v=>Fz X.K M R v Q (λh _ n=>h=.ref C/\sV X O σ n)) I ⟨F,m,L,S,y,i,r,l,e1,λxs F' m' g s' r' p'=>⟨F',m',y,i,O,U,r',p',V,λF2 m2 n d E=>⟨C,W,rfl,kk σ F2 m2 n (s'.trans d) E (l.mono (s'.trans d))⟩⟩⟩) λw N D=>?_) he A;obtain⟨R,v,f,rv,Z⟩:=D;refine⟨f.kIn,?_⟩;have hl:w.length=ps.length:=by rw[<- rv.length];exact G.len _ _ _ _ Z
 refine wpAny_call (lq (G.run X.A X.stack N v ⟨w,[]⟩ w R Q _ hr f.env0 (by have:=hb N w f.kIn (by simpa using hl);simpa using this) rv Z) λE d t=>?_);cases E with
 |error ev=>obtain⟨a,h,a0,g,B,rfl,os,b,un,P,hn,c0,j,Y,o,rfl,qe⟩:=t;exact qe C W pins v N (λh _ n=>h=.ref C/\n=g) _ d f ⟨a,.ref C,a0,g,B,rfl,os,b,un,P,hn,c0,j,Y,o,rfl,rfl⟩ λh n z=>z
 |ok o=>
  cases o with
  |ret u=>exact f.after t
  |next=>exact False.elim t
  |brk=>exact False.elim t
  |cont=>exact False.elim t
theorem Kl{D:Ends}{σ:L2.St}{H:Hp}(h:tX X f D σ H):Jd X f D σ H:=by obtain⟨F,m,L,S,c,n,b,r,l,q,k⟩:=h;exact⟨F,m,L,S,c,n,b,r,l,q,λx a t e s r l=>(k x a t e s r l).2⟩
theorem Gr(h:PE X e (GL X f)):PS X (.Return (some e) J) (Jd X f):=(zg h).imp' λ_ _ _ z=>z
theorem Gq(i:Nat)(N:X.N.Nodup)(h:PE X e (GL X f))(s:X.N[i]? = some x)(b:Loc X.env.scope x)(k:swapsWith e (some (.Name x n)) J.line X.env=pure false)(a:X.fn x=true\/X.env.scope.names.lookup x=some .local):PS X (.Assign [.Name x n] e J) (Jd X f):=
 (zf N s b h k a).imp' λ_ _ _ z=>z
end
noncomputable def fnX(p n:Nat)(b:EX):GX:=λd S=>if d.length=p then (b (d.map some++List.replicate (n-d.length) none) S).map λz=>(z.1,z.2.2) else none
theorem E3{P:Program}{w:World}{K:FG}{g:SV}{base:Heap}{x u:Str}{U:Stmt}{f:Addr}{fd:FuncData}{N ps:LS}{k:Nat}{b:EX}(F:Fun K x u U f fd)(S:FnScope N ps (aF U))(rd:∀{F:Aa}{H:Hp}{m:List Addr}{a:List D}{v:List V},dt K F H m a v->RL K F H m (L2.start N v) (a.map some++List.replicate (N.length-a.length) none))
  (hb:∀(d:Value) (A:Around) (o:List Env) (s:Shared) (H:Hp) (E:XK),Room k (A.deeper (envOfC u (aF U) s.heap.objs.size f d)) ->
   jW (mR (yr P w) P w K g base N u (aF U) f d A o s H E) (cW U) (tX (mR (yr P w) P w K g base N u (aF U) f d A o s H E) b)):FnOk P w K g base (yr P w) (k+1) f fd ps (Fz K (fnX ps.length N.length b)):=by
 obtain⟨oc,od,kV,X,pm,an,d,ct,osl,rfl,lk,t⟩:=F.ex;refine C4 lk t S (λv H Q E h=>?_) λA o s H v Q E hr h=>⟨_,hb d A o s H E hr,?_⟩
 .obtain⟨F,m,a,S,c,T,G,r,q,y⟩:=h;rw[<- r.length];unfold fnX at q;split at q
  .assumption
  .cases q
 .obtain⟨F,m,a,S,c,T,G,r,q,y⟩:=h;unfold fnX at q;split at q
  .obtain⟨⟨O,R,W⟩,Y,q⟩:=fu.mp q;cases q;refine⟨F,m,_,S,O,R,W,G,rd r,Y,λσ' J m' L s' r' l'=>?_⟩;obtain⟨j,n,B⟩:=y J m' L s' r';have lv:Leaves (mR (yr P w) P w K g base N u (aF U) f d A o s H E) E:=⟨rfl,rfl,rfl,rfl⟩;refine⟨λC i pins s1 h1 e v I p=>?_,λC i pins H0 s1 E1 e s2 I p Z=>zP lv I p λl M z=>?_⟩
   .cases (show some (some (Value.ref C))=some (some (Value.ref j)) from i.symm.trans n);exact leave_new lv I p B
   .cases (show some (some (Value.ref C))=some (some (Value.ref j)) from i.symm.trans n);obtain⟨rfl,rfl⟩:=Z l M z;exact B
  .cases q
noncomputable def vh(f0:ES)(e:EX)(sub:Str->Bool)(i:Nat)(g:ES):ES:=λL S=>match f0 L S with
 |some z=>some z
 |none=>match e L S with
  | some (c,x,h)=>if sub c=true then (match g (x.set i (some (.ref h.length))) (h++[.exc c]) with
   |some (f,L2,a)=>some (f,L2.set i none,a)
   |none=>none) else none
  |none=>none
section
variable{X:Cx}
theorem RL.clr {K:FG}{F:Aa}{H:Hp}{m:List Addr}{σ:L2.St}{L:Lc} (h:RL K F H m σ L) (i:Nat):RL K F H m (σ.set i none) (L.set i none):=⟨by rw [dZ,dZ];exact h.len,fun j d q=>by
 by_cases x:i=j
 .subst x;by_cases a:i < L.length
  .rw [dX a]at q;cases q
  .rw [qW (by rw[dZ];lia)]at q;cases q
 .rw [aX x]at q;rw[aX x];exact h.at' j d q⟩
noncomputable abbrev kX(X:Cx)(E:VP)(p:PN):Cx:={ X with xe:=E,pn:=p }
theorem FX{b:List Stmt}{c n:Str}{C2:Addr}{i:Nat}{b0:Stmt}{v:List Stmt}{np B J:Pos}{f0 g:ES}{fx:EX}{sub:Str->Bool}(stk:X.stack=X.env::X.outer)(W:X.env.frame=some X.env.locals)(ex:X.ex=[])(hN:X.N.Nodup)
  (gl:Gl X c) (mgc:X.mg c=some (.ref C2)) (Y:(c == ("__debug__":Str))=false) (hi:X.N[i]? = some n) (hl:X.env.scope.names.lookup n=some .local)
  (h0:∀E Q,jW (kX X E Q) b (jn X.K f0)) (hx:∀E Q,jW (kX X E Q) b (Jd (kX X E Q) fx)) (hg:∀e,jW (jC X e) (b0::v) (jn X.K g))
  (hs:∀j C,sub j=true->PySem.W.nsIn X.K mainGlobals j=some (some (.ref C))->PySem.W.exmOne X.K (.ref C) (.ref C2)=some true) :
  PS X (.Try b [.ExceptHandler (some (.Name c np)) (some n) (b0::v) B] [] [] J) (jn X.K (vh f0 fx sub i g)):=λpins s σ H D I hz=>by
 obtain⟨F,m,L,S,V,L',S',r,l,q,k⟩:=hz;unfold vh at q;split at q
 .rename_i z e0;cases q;refine wpAny_Try_except (wpAny_mono (h0 (λ_ _=>False) X.pn pins s σ H D (I.wish _) ⟨F,m,L,S,V,L',S',r,l,e0,k⟩) (λf R x=>?_) λ_ _ z=>z.elim);have x:=SP.unwish (X:=X) (E:=λ_ _=>False) x;cases f with
  |next=>exact wpAny_pure x
  |_=>exact x
 .split at q
  .rename_i j O P e1;split at q
   .rename_i G;split at q
    .rename_i fl2 Lg Sg eg;cases q;have IX:∀{E:VP}{t:PN}{N:L2.St}{T:Hp}{s2:Shared},Inv (kX X E (X.pn++pins)) t N T s2->Inv X pins N T s2:=λh=>
      ⟨⟨h.ok.mod,h.ok.kind,h.ok.glob,h.ok.blt,h.ok.above,h.ok.inj,h.ok.has,h.ok.cab,h.ok.hd,h.ok.frames,h.ok.stk,h.ok.exf,h.ok.bs,h.ok.bsz,h.ok.noex,h.ok.exfs,h.ok.funs,h.ok.frf⟩,h.os,h.bare,h.base,h.loc,h.cell,h.free,h.freeC,λp Z=>h.pin p (ky _ Z),h.hok,h.len⟩
     have XI:∀E:VP,Inv (kX X E (X.pn++pins)) [] σ H s:=λE=>
      ⟨⟨I.ok.mod,I.ok.kind,I.ok.glob,I.ok.blt,I.ok.above,I.ok.inj,I.ok.has,I.ok.cab,I.ok.hd,I.ok.frames,I.ok.stk,I.ok.exf,I.ok.bs,I.ok.bsz,I.ok.noex,I.ok.exfs,I.ok.funs,I.ok.frf⟩,I.os,I.bare,I.base,I.loc,I.cell,I.free,I.freeC,λp Z=>I.pin p ((dA.mp Z).elim id λz=>nomatch z),I.hok,I.len⟩
     refine wpAny_Try_except (wpAny_mono (hx _ (X.pn++pins) [] s σ H ⟨λ_ _=>False,λ_ _=>False,λ_ _=>False,λ_ _=>False⟩ (XI _) ⟨F,m,L,S,j,O,P,r,l,e1,λM y A H1 R r1 l1 C ns t T s2 E e s3 h hc hE=>?_⟩) (λf R x=>?_) λe R x=>x)
     .refine AH (D:=D) (ts:=λ_=>jn X.K g) stk W ex hN (IX h) hc gl mgc Y hi hl hg λa U o he qe hn=>?_;obtain⟨rfl,rfl⟩:=hE U o qe;have r5:Rel X.K y (bW o a (.ext (mr a C))) (A++[a]) (P++[.exc j]):=Rel.own (K:=X.K) (so:=.exc j) r1 hn ⟨C,ns,aE⟩;have s5:Stp y A o y (A++[a]) (bW o a (.ext (mr a C))):=fw hn;have l5:RL X.K y (bW o a (.ext (mr a C))) (A++[a]) (M.set i (some (.ref a))) (O.set i (some (.ref P.length))):=RL.set (RL.mono s5 (show RL X.K y o A M O from l1)) (d:=.ref P.length) ⟨a,rfl,by rw[<- r1.len];simp⟩ i;refine⟨C,rfl,hs j C G ns,y,A++[a],O.set i (some (.ref P.length)),P++[.exc j],V,Lg,S',r5,l5,eg,λσ4 F4 m4 H4 s4 r4 l4=>?_⟩;have w:=k (σ4.set i none) F4 m4 H4 (R.trans (s5.trans s4)) r4 (l4.clr i);cases V with
      |nx=>exact w
      |bk=>exact w
      |ct=>exact w
      |rt d=>exact w
     .cases f with
      |next=>obtain⟨_,_,_,z⟩:=x;exact z.elim
      |brk=>obtain⟨_,_,_,z⟩:=x;exact z.elim
      |cont=>obtain⟨_,_,_,z⟩:=x;exact z.elim
      |ret u=>obtain⟨_,_,_,_,_,z⟩:=x;exact z.elim
    .cases q
   .cases q
  .cases q
end
open PySem.W (Looks)
open PySem.Builtin PySem.Builtin.ObjectAttr PySem.Builtin.Getset_descriptor
section
variable{prog:Program}{w:World}{A:Around}{E:VP}{s:Shared}{K:FG}{a C:Addr}
theorem tu(T:Looks (model prog w) s.heap (typeOf (.ref a)) (.ref C))(sub:Looks (model prog w) s.heap (isSubtype (.ref C) (.type "object")) true)(h:R (.ok (.ret (.ref C))) s) :
  codeAny (model prog w) A (.call (.builtin "getset_descriptor.__get__") ⟨[.builtin "object.__class__",.ref a,n],[]⟩) R s:=by
 have o:∀B:Around,wpAny (model prog w) B (Builtin.«object.__class__» ⟨[.ref a],[]⟩) (λf u=>f=.done (.ret (.ref C))/\u=s) (λ_ _=>False) s:=λB=>by
  obtain⟨p,g,d,t,os⟩:=s;simp only[Builtin.«object.__class__»,shownTypeOf];repeat lk
  exact⟨rfl,rfl⟩
 have k:∀B:Around,wpAny (model prog w) B (descrCheckInstance (.builtin "object.__class__") (.ref a)) (λ_ u=>u=s) (λ_ _=>False) s:=λB=>by obtain⟨p,g,d,t,os⟩:=s;simp only[descrCheckInstance,descrNameAndClass,isInstance,PySem.W.KF.owner_class];repeat lk
 obtain⟨q,x⟩:=And.intro PySem.W.KF.slot_gs PySem.W.KF.entry_gs;refine codeAny_call_builtin q.plain x (q.check _ _ _ _ _ _ _ _ PySem.W.KF.type_class (PySem.W.KF.args_gs _ _ _) ?_);simp only[Builtin.«getset_descriptor.__get__»,descrGet,PySem.W.dga_obj,descrGetter];refine wpAny_bind (wpAny_pure (wpAny_bind (wpAny_mono (k _) (λ_ u e=>?_) λ_ _ z=>z.elim)));subst e;refine wpAny_pure ⟨Code.quiet_builtin (id:="object.__class__") _ (by decide +kernel),codeAny_builtin PySem.W.KF.entry_class (wpAny_mono (o _) (λf u e=>?_) λ_ _ z=>z.elim)⟩;obtain⟨rfl,rfl⟩:=e;exact h
structure ExcCl(K:FG)(C:Addr):Prop where
 get:PySem.W.findIn K (.ref C) "__getattribute__"=some (some (.builtin "BaseException.__getattribute__"))
 hook:PySem.W.findIn K (.ref C) "__getattr__"=some none
 cls:PySem.W.findIn K (.ref C) "__class__"=some (some (.builtin "object.__class__"))
 by':PySem.W.specialIn K (.builtin "object.__class__") "__get__"=some (some (.builtin "getset_descriptor.__get__"))
 dat:PySem.W.takesIn K (.builtin "object.__class__")=some true
 obj:PySem.W.mroIn K C (.type "object")=some true
 bas:PySem.W.mroIn K C (.type "BaseException")=some true
 isC:(PySem.W.clsIn K C).isSome=true
theorem As(F:ExcCl K C)(k:K.In s.heap)(T:Looks (model prog w) s.heap (typeOf (.ref a)) (.ref C))(c:Q (some (.ref C)) { s with toks:=s.toks+1 }):wpAny (model prog w) A (getAttr? (.ref a) "__class__") Q E s:=by
 have sub:=PySem.W.looks_mroIn (M:=model prog w) k F.obj;have h:=PySem.W.looks_mroIn (M:=model prog w) k F.bas;have b:=qI (M:=model prog w) k F.get;have n:=qI (M:=model prog w) k F.hook;have m:Looks (model prog w) s.heap (find (.ref a) (.ref C) "__class__") (.bind (.builtin "getset_descriptor.__get__") (.builtin "object.__class__")):=
  (qI k F.cls).andThen ((show Looks (model prog w) s.heap (getOf (some (.builtin "object.__class__"))) (some (.builtin "getset_descriptor.__get__")) from PySem.W.looks_specialIn k F.by').andThen
   ((show Looks (model prog w) s.heap (dataDescriptor? (some (.builtin "object.__class__")) (some (.builtin "getset_descriptor.__get__"))) (some (.builtin "getset_descriptor.__get__",.builtin "object.__class__")) from(PySem.W.looks_takesIn k F.dat).andThen .now).andThen (Looks.tag .now)))
 have i:∀B:Around,∀x:Tok,∀u:Shared,u.heap=s.heap->codeAny (model prog w) B (.call (.builtin "BaseException.__getattribute__") ⟨[.ref a,.str "__class__" x],[]⟩) (λr l=>r=.ok (.ret (.ref C))/\l=u) u:=λB x u q=>by
  obtain⟨p,g,d,t,os⟩:=u;cases (show p=s.heap from q);have v:builtinKind "BaseException.__getattribute__"=some .slot:=by decide +kernel
  have j:splitId "BaseException.__getattribute__"=some ("BaseException","__getattribute__"):=by decide +kernel
  refine codeAny_call_builtin (by decide +kernel) PySem.F.entry_bexc_ga ?_;have f:=PySem.F.args_bexc_ga (.ref a) (.str "__class__" x);simp only[checkBuiltinCall,v,j,isInstance];refine wpAny_bind (wpAny_bind (T.at (h.at ?_)));simp only[Bool.not_true,qE,jq];refine wpAny_of_eq f ?_;refine wpAny_bind (wpAny_pure (wpAny_bind (wpAny_pure (wpAny_bind (T.at (wpAny_bind (m.at ?_)))))));show wpAny _ _ (bindTo (.builtin "getset_descriptor.__get__") (.builtin "object.__class__") (.ref a) (.ref C)) _ _ _;exact wpAny_bind (wpAny_holding (wpAny_call (tu (s:=⟨s.heap,g,d,t,os⟩) T sub (wpAny_pure ⟨rfl,rfl⟩))))
 obtain⟨p,g,d,t,os⟩:=s;simp only[getAttr?,getAttrBy?,getAttrBy];refine wpAny_bind (wpAny_mkText (wpAny_bind (wpAny_attempt (wpAny_holding (wpAny_bind (T.at (wpAny_bind (b.at ?_))))))));have o:(onTheHeap (Value.ref C) && Value.builtin "BaseException.__getattribute__" == Value.builtin "object.__getattribute__")=false:=by rw[show(Value.builtin "BaseException.__getattribute__" == Value.builtin "object.__getattribute__")=false by decide +kernel];rfl
 simp only[o,getAttrByItsOwn,hookBefore,qE,jq];refine wpAny_bind (wpAny_ite ?_);rw[if_pos (show onTheHeap (Value.ref C)=true from rfl)];refine n.at (wpAny_bind (wpAny_attempt (wpAny_holding ?_)));have bound:=PySem.F.attrBase_ValueError.ga.bind (.ref a);simp only[callGetattribute,boundAndCalled,Bool.false_and,qE,jq,bound];refine wpAny_bind (wpAny_pure (wpAny_call (lq (i A t ⟨p,g,d,t+1,os⟩ rfl) λr u e=>?_)));obtain⟨rfl,rfl⟩:=e;exact PySem.W.handed_on rfl (wpAny_pure c)
end
section
variable{K:FG}{a C:Addr}
theorem Ar(p:mr a C h):PySem.W.Looks M h (typeOf (.ref a)) (.ref C):=by obtain⟨o,x,c⟩:=p;rw[<- c];exact(PySem.W.Looks.ld x).andThen .now
theorem zV(F:ExcCl K C)(e:PySem.W.kitCls K (.ref C) (.ref C)=some true):PySem.W.KitX K (.ref a) (.ref C) (mr a C) where
 ty:=λ_ _ _ p=>Ar p
 it:=λ_ _ k _=>(PySem.W.kit_cls k e).2.1
 ne:=λh x d i n f k t=>by
  rcases q:(Value.ref C == Value.ref x) with _|_
  .rfl
  .have same:C=x:=by simpa using q
   subst same;have s:=F.isC;unfold PySem.W.clsIn at s;split at s
   .next l=>exact nomatch (k _ _ l).symm.trans t
   .exact nomatch s
 ca:=λk p g=>As F k (Ar p) g
end
noncomputable def zZ(v:Str->Option Bool):D->aD->Option Bool
 | .p .non,_=>some false
 | .ref i,S=>match S[i]? with
  |some (.exc c)=>v c
  |_=>none
 |_,_=>none
def j'(v:Str->Option Bool)(f:EE):EV:=λL S=>aG (f L S) λd h=>(zZ v d h).map λb=>(.bl b,h)
noncomputable def JE:Value->Option V
 | .ref C=>some (.ref C)
 | .type T=>some (.ty T)
 |_=>none
variable{u:Value}
theorem Fe(h:JE u=some n)(r:RelV n w):w=u:=by cases u<;>cases h<;>exact r
structure AnsOk(K:FG)(ans:Str->Option Bool)(u:Value):Prop where
 non:PySem.W.kitOne K (.type "NoneType") u=some false
 exc:∀c b C,ans c=some b->PySem.W.nsIn K mainGlobals c=some (some (.ref C))->ExcCl K C/\PySem.W.kitCls K (.ref C) (.ref C)=some true/\PySem.W.kitOne K (.ref C) u=some b
section
variable{X:Cx}{a:Expr}{fa:EE}{p J:Pos}{v:Str->Option Bool}
theorem yj(P:JE u=some n)(K:AnsOk X.K v u) :
  dU X (.builtin "isinstance") (λp H Q=>∃F m S d b x,p=[x,n]/\Rel X.K F H m S/\RD X.K F H m d x/\zZ v d S=some b/\Q (.bl b) H):=by
 intro pins s σ H p J Q I r h;obtain⟨F,m,S,d,b,x,rfl,D,pd,e,q⟩:=h;obtain⟨k,G,rfl,a,E⟩:=vals2 r;cases Fe P E;have f:∀t,EP X pins σ Q (.bool b) { s with toks:=t }:=λt=>⟨.bl b,H,I.tok _,rfl,q⟩
 unfold zZ at e;split at e
 .cases e;cases (show x=.non from pd);cases (show k=Value.none from a);exact d4 PySem.W.kitx_none I.kIn trivial K.non (λz=>nomatch z) f
 .split at e
  .next j c o=>obtain⟨ad,rfl,y⟩:=pd;cases (show k=Value.ref ad from a);obtain⟨C,A,l⟩:=D.obj _ ad _ y o;obtain⟨w,g,i⟩:=K.exc c b C e A;have B:=I.hok ad _ l;exact d4 (zV w g) I.kIn B.1 i (λz=>nomatch z) f
  .cases e
 .cases e
theorem F_(B:JE u=some h)(K:AnsOk X.K v u)(P:Gl X "isinstance")(A:X.mg "isinstance"=none)(z:PE X a (tE X.K fa))(o:PE X c (tC h))(f:starEach [a,c] X.env=[(false,eval a X.env),(false,eval c X.env)])(e:starEach [c] X.env=[(false,eval c X.env)]) :
  PE X (.Call (.Name "isinstance" p) [a,c] [] J) (tV X.K (j' v fa)):=
 (jD (yj B K) P A PyProof.Rows.boot_isinstance (dR z (dR o gm (by rw[e];rfl)) (by rw[f,e])) (by decide) (by decide) (by rw[f,e]) (by rw[e];rfl)).imp' λσ H Q C=>by obtain⟨F,m,L,S,d,E,r,l,q,k⟩:=C;obtain⟨x,G,i,q⟩:=ai q;obtain⟨b,j,q⟩:=fu.mp q;cases q;exact⟨F,m,L,S,_,_,r,l,i,λy n t g s w D=>⟨n,t,_,x,b,y,rfl,w,D,j,k _ n t g s w rfl⟩⟩
end
noncomputable def C8:P->Option (List P)
 | .lst x=>some x
 | .ro x=>some x
 | .tup x=>some x
 |_=>none
def wZ(a:EV):EE:=λL S=>aG (a L S) λv h=>(C8 v).map λx=>(.ref h.length,h++[.lst (x.map .p)])
section
variable{X:Cx}
theorem Dp(B:Gl X "list")(C:X.mg "list"=none)(A:PE X a (tV X.K fa))(i:starEach [a] X.env=[(false,eval a X.env)]):PE X (.Call (.Name "list" p) [a] [] J) (tE X.K (wZ fa)):=
 (jZ i6 B C uP (dR A gm (by rw[i];rfl)) (by decide) (by decide) (by rw[i];rfl) rfl).imp' λσ H Q z=>by
  obtain⟨F,m,L,S,d,G,r,l,q,k⟩:=z;obtain⟨x,K,P,q⟩:=ai q;obtain⟨E,n,q⟩:=fu.mp q;cases q;refine⟨F,m,L,S,x,K,r,l,P,λv s c h D j w=>?_⟩;have f:∀y,cC X.K s h E y->∀b,h b=none->Q (.ref b) (bW h b (.lst y)):=λy N b g=>by have o:Stp s c h s (c++[b]) (bW h b (.lst y)):=fw g;refine k (.ref b) s (c++[b]) _ (D.trans o) (j.own g ⟨y,aE,dt.ofP (cC.mono o N)⟩) ⟨b,rfl,?_⟩;rw[<- j.len,fK (Nat.le_refl _)];simp
  cases x with
  |lst u=>cases n;obtain⟨a,y,rfl,t,e⟩:=w;exact⟨a,y,rfl,.inl t.sq,f y e⟩
  |ro u=>cases n;obtain⟨a,y,rfl,t,e⟩:=w;exact⟨a,y,rfl,.inl t.sq,f y e⟩
  |tup u=>cases n;obtain⟨a,y,rfl,t,e⟩:=w;exact⟨a,y,rfl,.inr t.sq,f y e⟩
  |_=>cases n
end
end Ev
namespace Ev
open PySem PySem.Spec PyProof.Rows L2
def pureOf(g:GF)(ps:List P):Option P:=match g (ps.map .p) [] with
 |some (d,S)=>(toP 9 d S).map (·.1)
 |none=>none
noncomputable def cM(p n:Nat)(b:ES):GF:=λs S=>if s.length=p then match b (s.map some++List.replicate (n-s.length) none) S with
 |some (.rt d,_,h)=>some (d,h)
 |some (.nx,_,h)=>some (.p .non,h)
 |_=>none else none
variable{K:FG}{F:Aa}{H:Hp}
theorem Rel.nil(f:∀a,F a->H a≠none):Rel K F H [] []:=⟨rfl,by simp,by simp,by simp,by simp,f⟩
theorem nL(h:Je K (pureOf g) l H Q E):oZ K g l H Q E:=by
 obtain⟨F,s,d,t,r,q,k⟩:=h;unfold pureOf at q;cases e:g (s.map .p) [] with
 |none=>rw[e]at q;cases q
 |some z=>
  obtain⟨a,S⟩:=z;rw[e]at q;dsimp only at q;cases x:toP 9 a S with
  |none=>rw[x]at q;cases q
  |some j=>obtain⟨p,o⟩:=j;rw[x]at q;cases q;refine⟨F,[],s.map .p,[],a,S,.nil t,dt.ofP r,e,λv y P f u c w=>?_⟩;obtain⟨n,i,m,_,b⟩:=nK 9 x c w;exact k v n f ((u.trans i).toGrow m.ft) b
variable{mg:SV}
theorem FnOk.pure(G:FnOk s w K mg base qy k f d ps (oZ K g)):FnOk s w K mg base qy k f d ps (Je K (pureOf g)):=
 FnOk.imp G λ_ _ _ _ h=>nL h
theorem dt.toSt(r:dt K F H m s k):RL K F H m (L2.start N k) (s.map some++List.replicate (N.length-s.length) none):=by
 have l:=r.length;refine⟨by unfold L2.start;simp[l],λi d e=>?_⟩;by_cases h:i < s.length
 .rw [List.getElem?_append_left (by simpa using h),List.getElem?_map]at e;cases q:s[i]? with
  |none=>rw[q]at e;cases e
  |some v=>rw[q]at e;cases e;obtain⟨x,a,p⟩:=r.get q;refine⟨x,?_,p⟩;unfold L2.start;rw[List.getElem?_append_left (by simpa[<- l] using h),List.getElem?_map,a];rfl
 .rw [fK (by simpa using h),uT]at e;split at e<;>cases e
theorem E4{P:Program}{w:World}{K:FG}{mg:SV}{base:Heap}{x u:Str}{st:Stmt}{f:Addr}{p:FuncData}{N ps:LS}{k:Nat}{b:ES}(F:Fun K x u st f p)(S:FnScope N ps (aF st))
  (D:∀(c:Value) (A:Around) (o:List Env) (s:Shared) (H:Hp) (E:XK),Room k (A.deeper (envOfC u (aF st) s.heap.objs.size f c)) ->
   jW (mR qy P w K mg base N u (aF st) f c A o s H E).nox (cW st) (jn K b)):FnOk P w K mg base qy (k+1) f p ps (oZ K (cM ps.length N.length b)):=by
 refine F.ok S (λJ H Q E h=>?_) (λc A o s H J Q E G h=>⟨_,D c A o s H E G,?_⟩)
 .obtain⟨F,m,a,S,d,B,j,r,q,k⟩:=h;rw[<- r.length];unfold cM at q;split at q
  .assumption
  .cases q
 .obtain⟨F,m,a,S,d,B,j,r,q,k⟩:=h;unfold cM at q;split at q
  .cases e:b (a.map some++List.replicate (N.length-a.length) none) S with
   |none=>rw[e]at q;cases q
   |some z=>
    obtain⟨l,L,C⟩:=z;rw[e]at q;refine⟨F,m,_,S,l,L,C,j,r.toSt,e,λM n g t y i R=>?_⟩;cases l with
    |nx=>cases q;exact k .non n g t y i rfl
    |bk=>cases q
    |ct=>cases q
    |rt O=>intro v I;cases q;exact k v n g t y i I
  .cases q
theorem Ap:FnOk g w K mg base qy k f b ps (oZ K λ_ _=>none):=by
 have n:∀v H Q E,¬oZ K (λ_ _=>none) v H Q E:=λv H Q E h=>by obtain⟨F,m,e,S,d,x,_,_,q,_⟩:=h;cases q
 exact⟨λv H Q E h=>absurd h (n v H Q E),λA o s H a u v Q E _ _ _ _ h=>absurd h (n v H Q E)⟩
structure Tr where
 v:Option EV:=none
 e:Option EE:=none
 b:Option EB:=none
 w:Option EB:=none
def Tr.ofV(f:Option EV):Tr:=⟨f,f.map eV,f.map λg=>bT (eV g),f.map bV⟩
def Tr.ofC(f:Option EV):Tr:=⟨f,f.map eV,f.map bV,f.map bV⟩
def Tr.ofE(f:Option EE):Tr:=⟨f.map vE,f,f.map bT,f.map λg=>bV (vE g)⟩
def Tr.ofB(b w:Option EB):Tr:=⟨w.map vB,w.map λg=>eV (vB g),b,w⟩
structure Cn where
 N:LS
 own:LS
 deep:LS
 refs:LS
 ks:List (Str×NameKind)
 F:Str->Option GF
 G:Str->Option P
 A:Str->Str->Bool
 M:Str->Str->Option GF
 I:Str->Option GF
 E:List (Str×LS)
 R:LS
 Y:Str->Option GX
noncomputable def iz:LS->Str->Option Nat
 | [],_=>none
 |y::r,x=>if y=x then some 0 else (iz r x).map (·+1)
theorem n2:∀{N:LS}{x:Str}{i:Nat},iz N x=some i->N[i]? = some x
 | [],_,_,h=>by cases h
 |y::r,x,i,h=>by
  unfold iz at h;split at h
  .rename_i e;cases h;simp[e]
  .cases q:iz r x with
   |none=>rw[q]at h;cases h
   |some j=>rw[q]at h;cases h;simpa using n2 q
theorem ml:∀{N:LS}{x:Str}{i:Nat},N.Nodup->N[i]? = some x->iz N x=some i
 | [],_,_,_,h=>by simp at h
 |y::r,x,0,_,h=>by
  have:y=x:=by simpa using h
  unfold iz;rw[if_pos this]
 |y::r,x,i+1,d,h=>by
  have a:r[i]? = some x:=by simpa using h
  have n:¬y=x:=λe=>by subst e;exact(List.nodup_cons.mp d).1 (bL a)
  unfold iz;rw[if_neg n,ml (List.nodup_cons.mp d).2 a];rfl
noncomputable def bq(s:List (Str×NameKind))(x:Str)(l:List NameKind):Bool:=match s.lookup x with
 |some k=>l.contains k
 |none=>false
noncomputable def cE(x:Str):Bool:=!(x == ("__debug__":Str)) && !(x == ("__classdict__":Str))
noncomputable def FH(E:List (Str×LS))(t:Str):Bool:=E.any (λx=>decide (x.1=t)) ||decide (t=("ValueError":Str))
noncomputable def gB(E:List (Str×LS))(R:LS)(t c:Str):Option Bool:=if R.contains c=true then (E.lookup c).map λa=>a.contains t else none
def L6:Operator->Option (P->P->Option P)
 | .Add=>some au
 | .Sub=>some sJ
 | .Mult=>some fm
 | .FloorDiv=>some aB
 | .Mod=>some aO
 | .Pow=>some ye
 |_=>none
def II:CmpOp->Option (P->P->Option P)
 | .Lt=>some AW
 | .LtE=>some IC
 | .Gt=>some FO
 | .GtE=>some ID
 |_=>none
def IH:CmpOp->Option (D->D->aD->Option P)
 | .Eq=>some eC
 | .NotEq=>some pa
 | .In=>some C0
 | .Is=>some ni
 | .IsNot=>some dE
 |_=>none
def oX:List (Option EV)->Option gC
 | []=>some aN
 |a::r=>a.bind λf=>(oX r).map λg=>aL f g
def nI:List (Option EE)->Option l8
 | []=>some aV
 |a::r=>a.bind λf=>(nI r).map λg=>ae f g
def s_(o:BoolOp):List (Option EB)->Option EB
 | []=>none
 | [a]=>a
 |a::r=>a.bind λf=>(s_ o r).map λg=>match o with | .And=>g8 f g | .Or=>uO f g
def Kk(o:Option (Option EV)):Option EO:=match o with
 |none=>some fZ
 |some a=>a.map fI
noncomputable def z0(t:Str):Option String:=if t=("str":Str) then some "str" else if t=("tuple":Str) then some "tuple" else none
def AM(f:Str):Option (List P->Option P):=
 if f=("int":Str) then some bS else if f=("list":Str) then some iq else if f=("tuple":Str) then some bu else if f=("abs":Str) then some mD else none
noncomputable def Cq:LS:=["len","isinstance","int","bool","tuple","list","str","max","min","dict","range","abs","enumerate","sorted","all","any","sum","set","zip"]
noncomputable def pR(a s:List (Str×NameKind)):List (Str×NameKind):=a.map λ(n,k)=>if (k == .free && s.lookup n == some .cell) then (n,.cell) else (n,k)
def vZ(u:Cn)(j:Scope)(N':LS)(ts:List Nat)(n:Nat):Bool:=
 decide (j.kind=.function) && j.names.all (λx=>x.2 != .cell) && j.names.all (λx=>x.2 != .local ||j.names.lookup x.1 == some .local)
  && j.names.all (λx=>x.2 != .free ||(j.names.lookup x.1 == some .free && (u.ks.lookup x.1 == some .cell ||u.ks.lookup x.1 == some .free)))
  && decide (u.N=N'.take u.N.length) && decide (N'.length=u.N.length+n)
  && j.names.all (λx=>x.2 != .local ||match iz u.N x.1 with|some i=>ts.contains i|none=>true)
def o_(u:Cn)(f g:Str):Bool:=decide (f=g) && bq u.ks f [.globalImplicit]
noncomputable def z4:Expr->Bool
 | .Tuple ..=>true
 |_=>false
variable{p:Type}
noncomputable def o4:List p->Option p
 | [a]=>some a
 |_=>none
noncomputable def DC:List p->Option (p×p)
 | [a,b]=>some (a,b)
 |_=>none
theorem g_(h:o4 l=some a):l=[a]:=by
 unfold o4 at h;split at h
 .cases h;rfl
 .cases h
theorem Bf(h:DC l=some (a,b)):l=[a,b]:=by
 unfold DC at h;split at h
 .cases h;rfl
 .cases h
noncomputable def En:Expr->Option Str
 | .Name x _=>some x
 |_=>none
variable{e:Expr}{x:Str}
theorem rK(h:En e=some x):∃p,e=.Name x p:=by
 unfold En at h;split at h
 .cases h;exact⟨_,rfl⟩
 .cases h
def kh:Expr->Option (Str×Ab)
 | .Call f a k _=>if k.isEmpty=true then (En f).map λr=>(r,a) else none
 |_=>none
variable{O:Ab}
theorem f8(h:kh e=some (r,O)):∃p c,e=.Call (.Name r p) O [] c:=by
 unfold kh at h;split at h
 .split at h
  .rename_i k;obtain⟨s,x,a⟩:=fu.mp h;obtain⟨p,rfl⟩:=rK x;cases a;rw[List.isEmpty_iff.mp k];exact⟨_,_,rfl⟩
  .cases h
 .cases h
def w_(u:Cn)(a:Expr):Option Expr:=(kh a).bind λz=>(o4 z.2).bind λb=>if (o_ u z.1 "list" && cE z.1 && (u.F z.1).isNone && (u.I z.1).isNone)=true then some b else none
def CQ(u:Cn)(f:Str)(a:Expr):Option Expr:=(kh a).bind λz=>(o4 z.2).bind λb=>if (decide (f=("list":Str)) && o_ u z.1 "range")=true then some b else none
def yA(u:Cn)(f:Str)(a:Expr):Option (Expr×Expr):=(kh a).bind λz=>(DC z.2).bind λb=>if (decide (f=("dict":Str)) && o_ u z.1 "zip")=true then some b else none
noncomputable def K6:Expr->Bool
 | .Set ..=>true
 |_=>false
def yO(u:Cn)(T:Expr->Tr)(U e:Expr):Option gC:=match kh e with
 |some z=>if o_ u z.1 "range"=true then (o4 z.2).bind λa=>(T a).v.map io
  else if o_ u z.1 "enumerate"=true then (o4 z.2).bind λa=>if z4 U=true then (T a).v.map o8 else none
  else (T e).v.map iH
 |none=>if K6 e=true then none else (T e).v.map iH
def Bi(N:LS)(s:List (Str×NameKind))(k:List NameKind):Expr->Option jf
 | .Name x _=>if bq s x k=true then (iz N x).map ak else none
 |_=>none
def yN(N:LS)(s:List (Str×NameKind))(k:List NameKind):Ab->Option (List jf)
 | []=>some []
 |e::r=>(Bi N s k e).bind λg=>(yN N s k r).map λh=>g::h
def yL(N:LS)(s:List (Str×NameKind))(k:List NameKind):Expr->Option jf
 | .Tuple h _ _=>(yN N s k h).map aK
 |e=>Bi N s k e
noncomputable def HB:Expr->LS
 | .Name x _=>[x]
 |_=>[]
def gP:Expr->LS
 | .Tuple s _ _=>s.flatMap HB
 |e=>HB e
noncomputable def mS(N:LS):LS->LS
 | []=>[]
 |t::r=>if (N.contains t ||(mS N r).contains t)=true then mS N r else t::mS N r
def Lj(N:LS)(ts:LS):List Nat:=ts.filterMap λt=>iz N t
def nJ(u:Cn)(T:Cn->Expr->Tr)(l U iter:Expr)(i:Ab)(j:Scope):Option EV:=
 if (vZ u j (u.N++mS u.N (gP U)) (Lj u.N (gP U)) (mS u.N (gP U)).length && decide (u.N++mS u.N (gP U)).Nodup)=true then
  (yO u (T u) U iter).bind λt=>(yL (u.N++mS u.N (gP U)) (pR j.names u.ks) [.local] U).bind λg=>
   (match i with | []=>some ir | [c]=>(T ⟨u.N++mS u.N (gP U),u.own.filter (λx=>!(gP U).contains x),[],u.refs,pR j.names u.ks,u.F,u.G,u.A,u.M,u.I,u.E,u.R,u.Y⟩ c).b|_=>none).bind λc=>
   (T ⟨u.N++mS u.N (gP U),u.own.filter (λx=>!(gP U).contains x),[],u.refs,pR j.names u.ks,u.F,u.G,u.A,u.M,u.I,u.E,u.R,u.Y⟩ l).v.map λe=>bo t (Lj u.N (gP U)) (mS u.N (gP U)).length g c e
 else none
noncomputable def og(u:Cn):Nat->Expr->Bool
 |0,_=>false
 |_,.Name x _=>u.own.contains x
 |n+1,.Subscript a _ _=>og u n a
 |n+1,.Attribute a _ _=>og u n a
 |n+1,.Call (.Attribute o m _) (_::_) [] _=>decide (m=("setdefault":Str)) && og u n o
 |_,_=>false
noncomputable def tm:Expr->Option (Ab)
 | .Tuple e _ _=>some e
 |_=>none
noncomputable def y6:Ab->Option Expr
 | [a,.List [] _]=>some a
 |_=>none
noncomputable def xU:Expr->Bool
 | .Name ..=>true
 | .Attribute ..=>true
 | .Subscript ..=>true
 |_=>false
def Fy(u:Cn)(o:Option EE)(os:Expr)(m:Str)(O:List (Option EE))(p c:Pos):Tr:=
 if (xU os && (p.endLine == c.line) && decide (O.length < 29))=true then .ofE (o.bind λx=>(nI O).map λa=>dS u.M x m a) else {}
def FA(u:Cn)(o:Expr)(m:Str)(n:Str)(a c:Pos):Bool:=decide (m=n) && og u 4 o && (a.endLine == c.line)
def tr(u:Cn):Nat->Expr->Tr
 |0,_=>{}
 |n+1,e=>match e with
  | .Constant c _ _=>match c with
   | .int i=>.ofV (some (vC (.int i)))
   | .bool i=>.ofV (some (vC (.bl i)))
   | .none=>.ofV (some (vC .non))
   | .str i=>.ofV (some (vC (.str i)))
   |_=>{}
  | .Name x _=>if (bq u.ks x [.local,.cell,.free] && cE x)=true then .ofE ((iz u.N x).map aa) else
    if (bq u.ks x [.globalImplicit] && cE x)=true then .ofV ((u.G x).bind λv=>if Ad v=true then none else some (vC v)) else {}
  | .BinOp a p b _=>.ofV ((L6 p).bind λg=>(tr u n a).v.bind λx=>(tr u n b).v.map λy=>ac g x y)
  | .UnaryOp p a _=>match p with
   | .USub=>.ofV ((tr u n a).v.map (yI oO))
   | .Not=>.ofB ((tr u n a).b.map oS) ((tr u n a).w.map oS)
   |_=>{}
  | .BoolOp p k _=>.ofB (s_ p (k.map λx=>(tr u n x).b)) (s_ p (k.map λx=>(tr u n x).w))
  | .Compare a S K _=>match S,K with
   | [p],[b]=>.ofC (match II p with
    |some g=>(tr u n a).v.bind λx=>(tr u n b).v.map λy=>ac g x y
    |none=>(IH p).bind λg=>(tr u n a).e.bind λx=>(tr u n b).e.map λy=>aC g x y)
   | [p,H],[b,c]=>.ofC ((II p).bind λg=>(II H).bind λA=>(tr u n a).v.bind λx=>(tr u n b).v.bind λy=>(tr u n c).v.map λz=>lF g A x y z)
   |_,_=>{}
  | .IfExp c a b _=>{ Tr.ofV ((tr u n c).b.bind λq=>(tr u n a).v.bind λx=>(tr u n b).v.map λy=>CC q x y) with b:=none }
  | .Tuple k _ _=>.ofV ((oX (k.map λx=>(tr u n x).v)).map aw)
  | .List k _=>.ofV ((oX (k.map λx=>(tr u n x).v)).map aP)
  | .Dict D E _=>match D,E with
   | [],[]=>{ e:=some mu,v:=some (vE mu) }
   |_,_=>{}
  | .Subscript a i _=>match i with
   | .Slice lo C st _=>if st.isSome=true then {} else .ofV ((tr u n a).v.bind λx=>(Kk (lo.map λy=>(tr u n y).v)).bind λy=>(Kk (C.map λz=>(tr u n z).v)).map λz=>jB x y z)
   | _=>if og u 4 a=true then (match tm i with
    |some k=>.ofE ((tr u n a).e.bind λx=>(oX (k.map λz=>(tr u n z).v)).map λy=>vK x y)
    |none=>.ofE ((tr u n a).e.bind λx=>(tr u n i).v.map λy=>mK x y)) else .ofV ((tr u n a).v.bind λx=>(tr u n i).v.map λy=>ac ar x y)
  | .Call P r w s=>match w with
   |_::_=>{}
   | []=>match P with
   | .Name f _=>if (bq u.ks f [.globalImplicit] && cE f)=true then
    match u.I f with
    |some g=>match r with
     | []=>{}
     |_=>.ofE ((nI (r.map λx=>(tr u n x).e)).map λa=>oG g f a)
    |none=>match u.F f with
    |some g=>match r with
     | []=>{}
     |_=>if u.refs.contains f=true then .ofV ((nI (r.map λx=>(tr u n x).e)).map λa=>cq g a) else .ofV ((oX (r.map λx=>(tr u n x).v)).map λa=>ah (pureOf g) a)
    |none=>match r with
     | []=>{}
     | [a]=>if f=("len":Str) then .ofV ((tr u n a).e.map eH) else if f=("sorted":Str) then .ofV ((tr u n a).e.map pL) else match CQ u f a with
      |some b=>.ofV ((tr u n b).v.map Fw)
      |none=>match yA u f a with
       |some z=>.ofE ((tr u n z.1).v.bind λx=>(tr u n z.2).v.map λy=>se x y)
       |none=>.ofV ((AM f).bind λg=>(oX [(tr u n a).v]).map λx=>ah g x)
     | [a,.Name t tp]=>if f=("isinstance":Str) then (if bq u.ks t [.globalImplicit]=true then (match z0 t with|some T=>.ofV ((tr u n a).e.map λx=>u4 T x)|none=>if (FH u.E t && cE t)=true then .ofV ((tr u n a).e.map λx=>j' (gB u.E u.R t) x) else {}) else {}) else {}
     |_=>{}
   else {}
   | .Attribute o m h=>match r with
    | [a]=>if FA u o m "append" h s=true then .ofE ((tr u n o).e.bind λx=>(tr u n a).e.map λy=>bj x y) else
    if FA u o m "extend" h s=true then .ofE ((tr u n o).e.bind λx=>(tr u n a).v.map λy=>d_ x y) else
    if (decide (m=("index":Str)) && xU o && (h.endLine == s.line))=true then .ofV ((tr u n o).v.bind λx=>(tr u n a).v.map λy=>oW x y) else
    (match tm a with
    |some k=>if FA u o m "get" h s=true then .ofE ((tr u n o).e.bind λx=>(oX (k.map λz=>(tr u n z).v)).map λy=>uf x y) else Fy u (tr u n o).e o m [(tr u n a).e] h s
    |none=>Fy u (tr u n o).e o m [(tr u n a).e] h s)
    | args=>if (decide (m=("get":Str)) && xU o && (h.endLine == s.line))=true then (match r with
      | [a,b]=>.ofV ((tr u n o).v.bind λx=>(tr u n a).v.bind λy=>(tr u n b).v.map λz=>wk x y z)
      |_=>{}) else match y6 r with
     |some a=>if FA u o m "setdefault" h s=true then .ofE ((tr u n o).e.bind λx=>(tr u n a).v.map λy=>nj x y (cD aN)) else Fy u (tr u n o).e o m (r.map λx=>(tr u n x).e) h s
     |none=>Fy u (tr u n o).e o m (r.map λx=>(tr u n x).e) h s
   |_=>{}
  | .Attribute o f _=>if xU o=true then .ofE ((tr u n o).e.map λx=>d6 u.A x f) else {}
  | .ListComp l B j _=>match B with
   | [⟨U,iter,d,0⟩]=>.ofV (nJ u (λF x=>tr F n x) l U iter d j)
   |_=>{}
  |_=>{}
def GD(u:Cn)(n _k:Nat)(e:Expr):Option EE:=match kh e with
 |some z=>if (bq u.ks z.1 [.globalImplicit] && cE z.1 && !z.2.isEmpty && u.deep.contains z.1)=true then
   match u.F z.1 with
   |some g=>(nI (z.2.map λx=>(tr u n x).e)).map λa=>gq g a
   |none=>(tr u n e).e
  else (tr u n e).e
 |none=>(tr u n e).e
structure ExsOk(K:FG)(mg:SV)(E:List (Str×LS))(R:LS):Prop where
 own:∀c,(E.any λx=>decide (x.1=c))=true->∃C,PySem.W.nsIn K mainGlobals c=some (some (.ref C))/\mg c=some (.ref C)
 val:mg ("ValueError":Str)=none
 non:∀t C,(E.any λx=>decide (x.1=t))=true->mg t=some (.ref C)->PySem.W.kitOne K (.type "NoneType") (.ref C)=some false
 nonV:PySem.W.kitOne K (.type "NoneType") (.type "ValueError")=some false
 cl:∀c anc C,R.contains c=true->E.lookup c=some anc->PySem.W.nsIn K mainGlobals c=some (some (.ref C))->ExcCl K C/\PySem.W.kitCls K (.ref C) (.ref C)=some true/\PySem.W.kitOne K (.ref C) (.type "ValueError")=some (anc.contains ("ValueError":Str)) /\
  ∀t T,(E.any λx=>decide (x.1=t))=true->mg t=some (.ref T)->PySem.W.kitOne K (.ref C) (.ref T)=some (anc.contains t)/\(anc.contains t=true->PySem.W.exmOne K (.ref C) (.ref T)=some true)
 rE:∀c,R.contains c=true->(E.any λx=>decide (x.1=c))=true
 rs:∀c C,R.contains c=true->PySem.W.nsIn K mainGlobals c=some (some (.ref C))->mg c=some (.ref C)/\Lv K C
noncomputable def yg(mg:SV)(t:Str):Value:=(mg t).getD (.type "ValueError")
variable{R:LS}{t:Str}
theorem vU(h:ExsOk K mg E R)(q:FH E t=true):(∃C,mg t=some (.ref C)/\yg mg t=.ref C/\(E.any λx=>decide (x.1=t))=true)\/(t="ValueError"/\mg t=none/\yg mg t=.type "ValueError"):=by
 unfold FH at q;rcases Bool.or_eq_true_iff.mp q with q|q
 .obtain⟨C,_,e⟩:=h.own t q;exact .inl ⟨C,e,by unfold yg;rw[e];rfl,q⟩
 .cases aS q;exact .inr ⟨rfl,h.val,by unfold yg;rw[h.val];rfl⟩
theorem Fk{K:FG}{mg:SV}{E:List (Str×LS)}{R:LS}(h:ExsOk K mg E R){t:Str}(q:FH E t=true):AnsOk K (gB E R t) (yg mg t) where
 non:=by
  rcases vU h q with ⟨C,s,x,n⟩|⟨_,_,x⟩
  .rw [x];exact h.non t C n s
  .rw [x];exact h.nonV
 exc:=λc b C e d=>by
  unfold gB at e;split at e;case isFalse=>cases e
  rename_i f;obtain⟨a,k,rfl⟩:=fu.mp e;obtain⟨m,r,p,v⟩:=h.cl c a C f k d;refine⟨m,r,?_⟩;rcases vU h q with ⟨T,s,x,n⟩|⟨rfl,_,x⟩
  .rw [x];exact(v t T n s).1
  .rw [x];exact p
structure XOk(Γ:Cn)(X:Cx):Prop where
 hN:X.N=Γ.N
 nd:X.N.Nodup
 ks:X.env.scope.names=Γ.ks
 kd:X.env.scope.kind=.function
 calm:X.calm=true
 hu:X.A.units+64 < cLine
 fns:∀x g,Γ.F x=some g->∃k f fd ps,FnOk X.prog X.w X.K X.mg X.base qy k f fd ps (oZ X.K g)/\Room k X.A/\X.mg x=some (.ref f)/\PySem.W.keepIn X.K (.ref f)=true/\Binds X.K fd ps []
 blt:∀x ∈ Cq,X.mg x=none
 glb:∀x v,Γ.G x=some v->lj X.w X.K X.mg x v
 attrs:JO X.K Γ.A
 meths:JL X Γ.M
 mks:∀c g,Γ.I c=some g->∃C k f fd ps,jg X.K c C/\X.mg c=some (.ref C)/\Mk X.K C f/\FnOk X.prog X.w X.K X.mg X.base qy k f fd ps (oZ X.K g)/\Room (k+1) X.A/\Binds X.K fd ps []
 exs:ExsOk X.K X.mg Γ.E Γ.R
 ys:∀x gx,Γ.Y x=some gx->AF X.K gx/\∃k f fd ps,FnOk X.prog X.w X.K X.mg X.base (yr X.prog X.w) k f fd ps (Fz X.K gx)/\Room k X.A/\X.mg x=some (.ref f)/\PySem.W.keepIn X.K (.ref f)=true/\Binds X.K fd ps []
structure Good(X:Cx)(ex:Expr)(t:Tr):Prop where
 v:∀f,t.v=some f->PE X ex (tV X.K f)
 e:∀f,t.e=some f->PE X ex (tE X.K f)
 b:∀f,t.b=some f->PT X ex (tQ X.K f)
 w:∀f,t.w=some f->PE X ex (tV X.K (vB f))
section
variable{X:Cx}{e:Expr}
theorem Good.no:Good X e {}:=⟨λ_ h=>(by cases h),λ_ h=>(by cases h),λ_ h=>(by cases h),λ_ h=>(by cases h)⟩
def AT(e:Expr):Prop:=∀B w,isTrue e B w=(do let v <- w;standAt e.pos;holding [v] (truthy v))
theorem Good.ofV{t:Option EV}(h:∀f,t=some f->PE X e (tV X.K f))(p:AT e):Good X e (.ofV t) where
 v:=h
 e:=λf q=>by
  cases t with
  |none=>cases q
  |some g=>cases q;exact Fu (h _ rfl)
 b:=λf q=>by
  cases t with
  |none=>cases q
  |some g=>cases q;exact yT (Fu (h _ rfl)) (p _)
 w:=λf q=>by
  cases t with
  |none=>cases q
  |some g=>cases q;exact we (h _ rfl)
theorem Good.ofC{t:Option EV}(h:∀f,t=some f->PE X e (tV X.K f))(x:∀f,t=some f->PT X e (tQ X.K (bV f))):Good X e (.ofC t) where
 v:=h
 e:=λf q=>by
  cases t with
  |none=>cases q
  |some g=>cases q;exact Fu (h _ rfl)
 b:=λf q=>by
  cases t with
  |none=>cases q
  |some g=>cases q;exact x _ rfl
 w:=λf q=>by
  cases t with
  |none=>cases q
  |some g=>cases q;exact we (h _ rfl)
theorem Good.ofE{t:Option EE}(h:∀f,t=some f->PE X e (tE X.K f))(p:AT e):Good X e (.ofE t) where
 v:=λf q=>by
  cases t with
  |none=>cases q
  |some g=>cases q;exact J0 (h _ rfl)
 e:=h
 b:=λf q=>by
  cases t with
  |none=>cases q
  |some g=>cases q;exact yT (h _ rfl) (p _)
 w:=λf q=>by
  cases t with
  |none=>cases q
  |some g=>cases q;exact we (J0 (h _ rfl))
theorem Good.ofB{b w:Option EB}(h:∀f,b=some f->PT X e (tQ X.K f))(hw:∀f,w=some f->PE X e (tV X.K (vB f))):Good X e (.ofB b w) where
 v:=λf q=>by
  cases w with
  |none=>cases q
  |some g=>cases q;exact hw _ rfl
 e:=λf q=>by
  cases w with
  |none=>cases q
  |some g=>cases q;exact Fu (hw _ rfl)
 b:=h
 w:=hw
end
theorem ag{p e:Type}{x:Option p}{f:p->Option e}{r:e}(h:x.bind f=some r):∃a,x=some a/\f a=some r:=by
 cases x with
 |none=>cases h
 |some a=>exact⟨a,rfl,h⟩
theorem aq{p e:Type}{x:Option p}{f:p->e}{r:e}(h:x.map f=some r):∃a,x=some a/\r=f a:=by
 cases x with
 |none=>cases h
 |some a=>cases h;exact⟨a,rfl,rfl⟩
def dH(e:Expr):Prop:=∀s B,starEach (e::s) B=(false,eval e B)::starEach s B
variable{u:Cn}{n:Nat}
theorem be(h:(tr u n e).v.isSome=true\/(tr u n e).e.isSome=true):dH e:=by
 intro s B;cases n with
 |zero=>rcases h with h|h<;>cases h
 |succ n=>cases e<;>first|rfl|(rcases h with h|h<;>cases h)
theorem nT(h:(tr u n e).v.isSome=true):li e:=by
 intro o i;cases n with
 |zero=>cases h
 |succ n=>cases e<;>first|rfl|cases h
variable{B:Env}{J:Pos}
theorem ib(h:∀e ∈ s,dH e):(backTo J (starEach s B)).any (·.1)=false:=by
 induction s with
 |nil=>rfl
 |cons e s i=>
  rw[h e List.mem_cons_self s B];have:=i λx a=>h x (a6 _ a)
  unfold backTo at this ⊢;rw[List.map_cons,ig,this];rfl
section
variable{u:Cn}{X:Cx}(h:XOk u X)
include h
theorem XOk.gl(q:bq u.ks x [.globalImplicit]=true):Gl X x:=by
 unfold Gl Env.kindOf;rw[h.ks];unfold bq at q;cases e:u.ks.lookup x with
 |none=>rw[e]at q;cases q
 |some k=>rw[e]at q;cases k<;>first|rfl|cases q
theorem XOk.vis(q:bq u.ks x [.local,.cell,.free]=true):Db X.env.scope x:=by
 unfold Db;rw[h.ks];unfold bq at q;cases e:u.ks.lookup x with
 |none=>rw[e]at q;cases q
 |some k=>rw[e]at q;cases k<;>first|exact .inl rfl|exact .inr (.inl rfl)|exact .inr (.inr rfl)|cases q
theorem XOk.loc(q:bq u.ks x [.local,.cell]=true):L2.Loc X.env.scope x:=by
 unfold L2.Loc;rw[h.ks];unfold bq at q;cases e:u.ks.lookup x with
 |none=>rw[e]at q;cases q
 |some k=>rw[e]at q;cases k<;>first|exact .inl rfl|exact .inr rfl|cases q
theorem XOk.local(q:bq u.ks x [.local]=true):X.env.scope.names.lookup x=some .local:=by
 rw[h.ks];unfold bq at q;cases e:u.ks.lookup x with
 |none=>rw[e]at q;cases q
 |some k=>rw[e]at q;cases k<;>first|rfl|cases q
omit h in
theorem ck(q:cE x=true):(x == ("__debug__":Str))=false/\(x == ("__classdict__":Str))=false:=by unfold cE at q;rw[Bool.and_eq_true]at q;exact⟨by simpa using q.1,by simpa using q.2⟩
theorem XOk.get(q:iz u.N x=some i):X.N[i]? = some x:=by rw[h.hN];exact n2 q
omit h in
theorem gD{u:Cn}{n:Nat}:∀{s:Ab}{k:gC},(∀e ∈ s,Good X e (tr u n e))->oX (s.map λx=>(tr u n x).v)=some k->PA X s (oY X.K k)/\∀e ∈ s,dH e
 | [],k,_,q=>by cases q;exact⟨Fo,λ_ z=>by cases z⟩
 |e::s,k,g,q=>by
  obtain⟨f,b,p⟩:=ag q;obtain⟨r,v,rfl⟩:=aq p;obtain⟨m,t⟩:=gD (λx a=>g x (a6 _ a)) v;have b:(tr u n e).v=some f:=b;have c:dH e:=be (.inl (by rw[b];rfl));refine⟨C_ ((g e List.mem_cons_self).v f b) m (c _ _),λx a=>?_⟩;rcases ba.mp a with a|a
  .subst a;exact c
  .exact t x a
omit h in
theorem jY{u:Cn}{n:Nat}:∀{s:Ab}{k:l8},(∀e ∈ s,Good X e (tr u n e))->nI (s.map λx=>(tr u n x).e)=some k->PA X s (u_ X.K k)/\∀e ∈ s,dH e
 | [],k,_,q=>by cases q;exact⟨Ix,λ_ z=>by cases z⟩
 |e::s,k,g,q=>by
  obtain⟨f,b,p⟩:=ag q;obtain⟨r,v,rfl⟩:=aq p;obtain⟨m,t⟩:=jY (λx a=>g x (a6 _ a)) v;have b:(tr u n e).e=some f:=b;have c:dH e:=be (.inr (by rw[b];rfl));refine⟨E9 ((g e List.mem_cons_self).e f b) m (c _ _),λx a=>?_⟩;rcases ba.mp a with a|a
  .subst a;exact c
  .exact t x a
omit h in
theorem sY{o:BoolOp}{J:Pos}{u:Cn}{n:Nat}:∀{s:Ab}{f:EB},(∀e ∈ s,Good X e (tr u n e))->s_ o (s.map λx=>(tr u n x).b)=some f->PW X (.BoolOp o s J) (tQ X.K f)
 | [],f,_,q=>by cases q
 | [a],f,g,q=>by
  cases o with
  |And=>exact Gc ((g a List.mem_cons_self).b f q)
  |Or=>exact JV ((g a List.mem_cons_self).b f q)
 |a::b::s,f,g,q=>by
  obtain⟨x,k,m⟩:=ag q;obtain⟨r,t,rfl⟩:=aq m;have i:=sY (s:=b::s) (J:=J) (λx c=>g x (a6 _ c)) t;cases o with
  |And=>exact JY ((g a List.mem_cons_self).b x k) i
  |Or=>exact Ma ((g a List.mem_cons_self).b x k) i
omit h in
theorem sZ{o:BoolOp}{J:Pos}{u:Cn}{n:Nat}:∀{s:Ab}{f:EB},(∀e ∈ s,Good X e (tr u n e))->s_ o (s.map λx=>(tr u n x).w)=some f->PE X (.BoolOp o s J) (tV X.K (vB f))
 | [],f,_,q=>by cases q
 | [a],f,g,q=>Gp ((g a List.mem_cons_self).w f q)
 |a::b::s,f,g,q=>by
  obtain⟨x,k,m⟩:=ag q;obtain⟨r,t,rfl⟩:=aq m;have i:=sZ (s:=b::s) (J:=J) (λx c=>g x (a6 _ c)) t;cases o with
  |And=>exact Kd ((g a List.mem_cons_self).w x k) i
  |Or=>exact Mb ((g a List.mem_cons_self).w x k) i
omit h in
theorem yM{u:Cn}{n:Nat}{o:Option Expr}{f:EO}(g:∀e,Good X e (tr u n e))(q:Kk (o.map λy=>(tr u n y).v)=some f):PO X o (tO X.K f):=by
 cases o with
 |none=>cases q;exact El
 |some e=>obtain⟨x,a,rfl⟩:=aq (show((tr u n e).v).map fI=some f from q);exact Ek ((g e).v x a)
theorem Fh(q:L6 s=some g):mV X (binaryOp s) g:=by cases s<;>first|(cases q;exact Eh)|(cases q;exact Hm)|(cases q;exact Eg)|(cases q;exact BN)|(cases q;exact Hr)|(cases q;exact Hn)|cases q
omit h in
theorem lZ(q:II s=some g):mV X (compareOp s) g:=by cases s<;>first|(cases q;exact KO)|(cases q;exact KP)|(cases q;exact KQ)|(cases q;exact KR)|cases q
theorem xa(q:IH s=some g):iI X (compareOp s) (rE X.K g):=by cases s<;>first|(cases q;exact Hv h.hu)|(cases q;exact Ho h.hu)|(cases q;exact Ht h.hu)|(cases q;exact Hs)|(cases q;exact zF)|cases q
omit h in
theorem uv(b:Expr)(q:II s=some g):behindInMarks s b=false:=by cases s<;>first|exact Em b|cases q
omit h in
theorem wI(q:(tr u n b).e.isSome=true):behindInMarks s b=false:=by
 cases n with
 |zero=>cases q
 |succ n=>cases b<;>first|rfl|cases q
omit h in
theorem tS(q:(tr u n c).v.isSome=true):lastMarks [k,s] [b,c]=false:=by
 cases n with
 |zero=>cases q
 |succ n=>cases c<;>first|rfl|cases q
theorem Cm(m:u.F f=some g)(r:bq u.ks f [.globalImplicit]=true)(q:cE f=true)(x:PA X (a::O) (oY X.K s))(n:∀e ∈ a::O,dH e) :
  PE X (.Call (.Name f y) (a::O) [] J) (tV X.K (ah (pureOf g) s)):=by
 obtain⟨k,d,w,i,G,v,t,p,b⟩:=h.fns f g m;exact Go (FnOk.pure G) v (h.gl r) t p b x (ck q).1 (n a List.mem_cons_self _ _) (ib λe c=>n e (a6 _ c))
theorem uF(v:u.F f=some g)(m:bq u.ks f [.globalImplicit]=true)(t:cE f=true)(b:PA X (a::O) (u_ X.K s))(n:∀e ∈ a::O,dH e) :
  PE X (.Call (.Name f y) (a::O) [] J) (tV X.K (cq g s))/\PE X (.Call (.Name f y) (a::O) [] J) (tE X.K (gq g s)):=by
 obtain⟨k,d,w,i,G,q,r,p,c⟩:=h.fns f g v;exact⟨A2 G q (h.gl m) r p c b (ck t).1 (n a List.mem_cons_self _ _) (ib fun e x=>n e (a6 _ x)),
  Dw G q (h.gl m) r p c b (ck t).1 (n a List.mem_cons_self _ _) (ib λe x=>n e (a6 _ x))⟩
theorem Fi(x:AM f=some g)(k:bq u.ks f [.globalImplicit]=true)(n:PA X (a::O) (oY X.K c))(b:∀e ∈ a::O,dH e) :
  PE X (.Call (.Name f y) (a::O) [] J) (tV X.K (ah g c)):=by
 have s:=b a List.mem_cons_self O X.env;have p:=ib (B:=X.env) (J:=J) λe s=>b e (a6 _ s);unfold AM at x;split at x
 .rename_i e;subst e;cases x;exact Dn (h.gl k) (h.blt _ (by decide)) n s p
 split at x
 .rename_i e;subst e;cases x;exact Dm (h.gl k) (h.blt _ (by decide)) n s p
 split at x
 .rename_i e;subst e;cases x;exact A0 (h.gl k) (h.blt _ (by decide)) n s p
 split at x
 .rename_i e;subst e;cases x;exact Ge (h.gl k) (h.blt _ (by decide)) n s p
 .cases x
theorem EU(x:z0 t=some T)(n:bq u.ks ("isinstance":Str) [.globalImplicit]=true)(k:bq u.ks t [.globalImplicit]=true)(s:PE X a (tE X.K b))(c:dH a) :
  PE X (.Call (.Name "isinstance" y) [a,.Name t tp] [] J) (tV X.K (u4 T b)):=by
 have f:starEach [a,.Name t tp] X.env=[(false,eval a X.env),(false,eval (.Name t tp) X.env)]:=by rw[c];rfl
 have m:=h.blt ("isinstance":Str) (by decide);unfold z0 at x;split at x
 .rename_i e;subst e;cases x;exact Ga B3 (h.gl n) m (h.gl k) (h.blt _ (by decide)) PyProof.Rows.boot_str s (by decide) (by decide) f
 split at x
 .rename_i e;subst e;cases x;exact Ga kit_tuple (h.gl n) m (h.gl k) (h.blt _ (by decide)) PyProof.Rows.boot_tuple s (by decide) (by decide) f
 .cases x
omit h in
theorem k4(q:o_ u f g=true):f=g/\bq u.ks f [.globalImplicit]=true:=by unfold o_ at q;rw[Bool.and_eq_true]at q;exact⟨aS q.1,q.2⟩
theorem CS{n:Nat}{U e:Expr}{f:gC}(g:∀x,Good X x (tr u n x))(q:yO u (λx=>tr u n x) U e=some f):PI X U e (tI X.K f):=by
 have plain:((tr u n e).v.map iH=some f)->PI X U e (tI X.K f):=λq=>by obtain⟨x,s,rfl⟩:=aq q;exact iS ((g e).v x s)
 unfold yO at q;split at q
 .rename_i z c;obtain⟨m,b⟩:=z;obtain⟨y,J,rfl⟩:=f8 c;dsimp only at q;split at q
  .rename_i r;obtain⟨rfl,r⟩:=k4 r;obtain⟨a,k,q⟩:=ag q;cases g_ k;obtain⟨x,s,rfl⟩:=aq q;exact MA (h.gl r) (h.blt ("range":Str) (by decide)) ((g a).v x s) (be (.inl (by rw[s];rfl)) _ _)
  .split at q
   .rename_i r;obtain⟨rfl,r⟩:=k4 r;obtain⟨a,k,q⟩:=ag q;cases g_ k;split at q
    .rename_i t;obtain⟨x,s,rfl⟩:=aq q;cases U<;>first|(cases t;done)|skip
     exact iE (h.gl r) (h.blt ("enumerate":Str) (by decide)) ((g a).v x s) (be (.inl (by rw[s];rfl)) _ _)
    .cases q
   .exact plain q
 .split at q
  .cases q
  .exact plain q
omit h in
theorem vW(q:w_ u a=some b):∃r p c,a=.Call (.Name r p) [b] [] c/\o_ u r "list"=true:=by
 obtain⟨⟨r,O⟩,z,s⟩:=ag q;obtain⟨f,k,x⟩:=ag s;clear q s;obtain⟨p,n,rfl⟩:=f8 z;cases g_ k;split at x
 .rename_i e;cases x;simp only[Bool.and_eq_true]at e;exact⟨r,p,n,rfl,e.1.1.1⟩
 .cases x
omit h in
theorem xm(q:yA u f a=some (b,c)):f="dict"/\∃r p x,a=.Call (.Name r p) [b,c] [] x/\o_ u r "zip"=true:=by
 obtain⟨⟨r,O⟩,z,n⟩:=ag q;obtain⟨⟨m,t⟩,k,s⟩:=ag n;clear q n;obtain⟨p,x,rfl⟩:=f8 z;cases Bf k;split at s
 .rename_i e;cases s;simp only[Bool.and_eq_true]at e;exact⟨aS e.1,r,p,x,rfl,e.2⟩
 .cases s
omit h in
theorem zO(q:CQ u f a=some b):f="list"/\∃r p c,a=.Call (.Name r p) [b] [] c/\o_ u r "range"=true:=by
 obtain⟨⟨r,O⟩,z,s⟩:=ag q;obtain⟨m,k,e⟩:=ag s;clear q s;obtain⟨p,n,rfl⟩:=f8 z;cases g_ k;split at e
 .rename_i x;cases e;simp only[Bool.and_eq_true]at x;exact⟨aS x.1,r,p,n,rfl,x.2⟩
 .cases e
omit h in
theorem t3(q:yO u T U e=some f)(B:Env)(x:Value):foldedSetIterable e B x=pure x:=by cases e<;>first|rfl|cases q
theorem AN(q:vZ u j N' ts n=true):BlockOk X j N' ts n:=by
 unfold vZ at q;simp only[Bool.and_eq_true]at q;obtain⟨⟨⟨⟨⟨⟨f,b⟩,c⟩,m⟩,r⟩,p⟩,v⟩:=q;have s:u.N=N'.take u.N.length:=aS r;refine⟨aS f,λx a=>?_,λx a l=>?_,λx a l=>?_,?_,?_,λx a l i k=>?_⟩
 .simpa using bc.mp b x a
 .have:=bc.mp c x a;rw[l]at this;simpa using this
 .have:=bc.mp m x a;rw[l]at this;have t:j.names.lookup x.1=some .free/\(u.ks.lookup x.1=some .cell\/u.ks.lookup x.1=some .free):=by simpa using this
  refine⟨t.1,?_⟩;unfold Env.kindOf;rw[h.ks];exact t.2
 .rw [h.hN];exact s
 .rw [h.hN];exact aS p
 .have:=bc.mp v x a;rw[l]at this;have e:iz u.N x.1=some i:=ml (by rw[<- h.hN];exact h.nd) (by rw[<- h.hN];exact k);rw[e]at this;simpa using this
end
theorem CP{X:Cx}{N:LS}{s:List (Str×NameKind)}{k:List NameKind}{e:Expr}{g:jf}(n:X.N=N)(d:X.N.Nodup)(f:∀x,bq s x k=true->L2.Loc X.env.scope x/\(X.fn x=true\/X.env.scope.names.lookup x=some .local))(q:Bi N s k e=some g):EW e=true/\PG X e (gT X.K g):=by
 unfold Bi at q;split at q
 .split at q
  .rename_i c;obtain⟨i,b,rfl⟩:=aq q;obtain⟨h,a⟩:=f _ c;exact⟨rfl,E2 i d (by rw[n];exact n2 b) h a⟩
  .cases q
 .cases q
theorem tg_ok{X:Cx}{N:LS}{a:List (Str×NameKind)}{k:List NameKind}{e:Expr}{g:jf}(t:X.calm=true)(f:X.N=N)(d:X.N.Nodup)(b:∀x,bq a x k=true->L2.Loc X.env.scope x/\(X.fn x=true\/X.env.scope.names.lookup x=some .local))(q:yL N a k e=some g):PG X e (gT X.K g):=by
 have all:∀{s:Ab}{h:List jf},yN N a k s=some h->GsOk X s h:=by
  intro s;induction s with
  |nil=>intro h q;cases q;exact .nil
  |cons e s i=>intro h q;obtain⟨g,n,q⟩:=ag q;obtain⟨r,p,rfl⟩:=aq q;obtain⟨c,m⟩:=CP f d b n;exact .cons c m (i p)
 unfold yL at q;split at q
 .obtain⟨h,n,rfl⟩:=aq q;exact EZ t (all n)
 .exact (CP f d b q).2
variable{j:Scope}
theorem y_(h:B.scope.kind=.function):(relabel j B).names=pR j.names B.scope.names:=by unfold relabel pR Env.kindOf;rw[h];simp
variable{X:Cx}{N':LS}{ts:List Nat}
theorem XOk.inn(h:XOk u X)(B:BlockOk X j N' ts n)(d:N'.Nodup)(s:Shared)(H:Hp)(C:Addr)(y:List Addr) :
  XOk ⟨N',[],[],u.refs,pR j.names u.ks,u.F,u.G,u.A,u.M,u.I,u.E,u.R,u.Y⟩ (Ev.inn X j N' s H C y) where
 hN:=rfl
 nd:=d
 ks:=by show(relabel j X.env).names=_;rw[y_ h.kd,h.ks]
 kd:=B.kind
 calm:=h.calm
 hu:=h.hu
 fns:=h.fns
 blt:=h.blt
 glb:=h.glb
 attrs:=h.attrs
 meths:=h.meths
 mks:=h.mks
 exs:=h.exs
 ys:=h.ys
theorem oQ(B:BlockOk X j N' ts n)(I:Inv X q w H s):closureFor j X.env=pure (l0 j X.env):=by
 have all:∀x ∈ j.names,x.2=.free->∃c,X.env.cells.lookup x.1=some c:=λx d e=>I.ok.has x.1 (B.fr x d e).2;unfold closureFor l0;have b:∀(l:List (Str×NameKind))(a:List (Str×Addr)),(∀x ∈ l,x.2=.free->∃c,X.env.cells.lookup x.1=some c) ->
   (forIn l a fun (x:Str×NameKind) (r:List (Str×Addr))=>(do
    if x.2 == .free then do
     let c <- cellOf X.env x.1
     pure (ForInStep.yield ((x.1,c)::r))
    else pure (ForInStep.yield r):Sem (ForInStep (List (Str×Addr)))))=pure ((((l.filter λx=>x.2 == .free).map λx=>(x.1,(X.env.cells.lookup x.1).getD 0)).reverse)++a):=by
  intro l;induction l with
  |nil=>intro a _;rfl
  |cons x l i=>
   intro a e;rw[List.forIn_cons];by_cases h:(x.2 == NameKind.free)=true
   .obtain⟨c,m⟩:=e x List.mem_cons_self (by simpa using h);rw[if_pos h,uS (p:=λ(x:Str×NameKind)=>x.2 == .free) h,List.map_cons,List.reverse_cons,List.append_assoc];have v:cellOf X.env x.1=pure c:=by unfold cellOf;rw[m]
    rw[v,m];show(forIn l ((x.1,c)::a) _:Sem _)=_;rw[i ((x.1,c)::a) λy f=>e y (a6 _ f)];rfl
   .rw [if_neg h,uR (p:=λ(x:Str×NameKind)=>x.2 == .free) h];show(forIn l a _:Sem _)=_;rw[i a λy f=>e y (a6 _ f)]
 have k:=b j.names [] all;rw [List.append_nil] at k;show (Bind.bind (forIn j.names [] fun (x:Str×NameKind) (r:List (Str×Addr))=>(do
    if x.2 == .free then do
     let c <- cellOf X.env x.1
     pure (ForInStep.yield ((x.1,c)::r))
    else pure (ForInStep.yield r):Sem (ForInStep (List (Str×Addr))))) λt=>pure t:Sem (List (Str×Addr)))=_
 rw[k];rfl
variable{U:Expr}
theorem Du(B:BlockOk X j N' ts n)(h:X.calm=true)
  (m:PI X U iter (tI X.K b)) (f:∀s H C y,PG (inn X j N' s H C y) U (gT X.K g)) (a:∀s H C y,PIfs (inn X j N' s H C y) i c) (e:∀s H C y,PE (inn X j N' s H C y) l (tV X.K k))
  (r:∀x,foldedSetIterable iter X.env x=pure x) :
  PE X (.ListComp l [⟨U,iter,i,0⟩] j J) (tV X.K (bo b ts n g c k)):=λp s t H Q I q=>
 Gm B h m f a e (oQ B I) r p s t H Q I q
theorem Di(i:Nat)(N:X.N.Nodup)(B:BlockOk X j N' ts n)(h:X.calm=true)
  (v:PI X U iter (tI X.K d)) (t:∀s H C y,PG (inn X j N' s H C y) U (gT X.K g)) (e:∀s H C y,PIfs (inn X j N' s H C y) k c) (f:∀s H C y,PE (inn X j N' s H C y) l (tV X.K r))
  (w:swapsWith (.ListComp l [⟨U,iter,k,0⟩] j J) (some (.Name x A)) b.line X.env=pure true)
  (u:∀x,foldedSetIterable iter X.env x=pure x) (a:X.N[i]? = some x) (z:L2.Loc X.env.scope x)
  (m:X.fn x=true\/X.env.scope.names.lookup x=some .local) :
  PS X (.Assign [.Name x A] (.ListComp l [⟨U,iter,k,0⟩] j J) b) (jn X.K (am i (eV (bo d ts n g c r)))):=λp s o H D I q=>
 F9 i N B h v t e f (oQ B I) w u a z m p s o H D I q
def sW(n:Nat):Prop:=∀(u:Cn)(X:Cx),XOk u X->∀e,Good X e (tr u n e)
theorem XOk.own(h:XOk u X)(o:LS):XOk ⟨u.N,o,u.deep,u.refs,u.ks,u.F,u.G,u.A,u.M,u.I,u.E,u.R,u.Y⟩ X:=⟨h.hN,h.nd,h.ks,h.kd,h.calm,h.hu,h.fns,h.blt,h.glb,h.attrs,h.meths,h.mks,h.exs,h.ys⟩
theorem ux{u:Cn}{X:Cx}(h:XOk u X){n:Nat}(G:sW n){l U iter:Expr}{k:Ab}{j:Scope}{f:EV}(q:nJ u (λp x=>tr p n x) l U iter k j=some f) :
  ∃N' ts m w g v d,BlockOk X j N' ts m/\PI X U iter (tI X.K w)/\(∀s H C y,PG (inn X j N' s H C y) U (gT X.K g))/\(∀s H C y,PIfs (inn X j N' s H C y) k v)/\(∀s H C y,PE (inn X j N' s H C y) l (tV X.K d)) /\
   (∀x,foldedSetIterable iter X.env x=pure x)/\f=bo w ts m g v d:=by
 unfold nJ at q;generalize N:u.N++mS u.N (gP U)=N' at q;generalize K:Lj u.N (gP U)=ts at q;generalize E:(mS u.N (gP U)).length=m at q;split at q
 .rename_i b;rw[Bool.and_eq_true]at b;obtain⟨P,S,q⟩:=ag q;obtain⟨F,A,q⟩:=ag q;obtain⟨c,t,q⟩:=ag q;obtain⟨e,D,rfl⟩:=aq q;have B:BlockOk X j N' ts m:=AN h b.1;have o:N'.Nodup:=aS b.2;have i:=λs H C y=>(h.inn B o s H C y).own (u.own.filter (λx=>!(gP U).contains x))
  refine⟨N',ts,m,P,F,c,e,B,CS h (G u X h) S,λs H C y=>?_,λs H C y=>?_,λs H C y=>?_,λx=>t3 S _ x,rfl⟩
  .exact tg_ok h.calm rfl o (λx z=>⟨.inl ((i s H C y).local z),.inr ((i s H C y).local z)⟩) A
  .cases k with
   |nil=>cases t;exact PIfs.none
   |cons a r=>
    cases r with
    |nil=>exact PIfs.one ((G _ _ (i s H C y) a).b c t)
    |cons _ _=>cases t
  .exact (G _ _ (i s H C y) l).v e D
 .cases q
theorem uw{u:Cn}{X:Cx}(h:XOk u X){n:Nat}(G:sW n){e U iter:Expr}{a:Ab}{j:Scope}{J:Pos}{f:EV}(q:nJ u (λb x=>tr b n x) e U iter a j=some f) :
  PE X (.ListComp e [⟨U,iter,a,0⟩] j J) (tV X.K f)/\∀(i:Nat){x:Str}{p s:Pos},X.N.Nodup->swapsWith (.ListComp e [⟨U,iter,a,0⟩] j J) (some (.Name x p)) s.line X.env=pure true->X.N[i]? = some x->L2.Loc X.env.scope x->(X.fn x=true\/X.env.scope.names.lookup x=some .local) ->
   PS X (.Assign [.Name x p] (.ListComp e [⟨U,iter,a,0⟩] j J) s) (jn X.K (am i (eV f))):=by
 obtain⟨N',ts,m,o,H,y,z,B,c,r,t,v,d,rfl⟩:=ux h G q;exact⟨Du B h.calm c r t v d,λi x p s N l k g w=>Di i N B h.calm c r t v l d k g w⟩
variable{o:Expr}
theorem gJ(h:og u n o=true)(a:x≠("__class__":Str)):attributeBase o x B (eval o B)=eval o B:=by
 cases n with
 |zero=>cases h
 |succ n=>
  cases o with
  |Call f O k p=>
   cases f with
   |Attribute o m q=>rfl
   |_=>cases h
  |_=>first|(cases h;done)|rfl
theorem nH(h:tm e=some s):∃c p,e=.Tuple s c p:=by
 unfold tm at h;split at h
 .cases h;exact⟨_,_,rfl⟩
 .cases h
variable{a:Expr}
theorem y4(h:y6 O=some a):∃p,O=[a,.List [] p]:=by
 unfold y6 at h;split at h
 .cases h;exact⟨_,rfl⟩
 .cases h
variable{m:Str}
theorem rL(h:FA u o m s k c=true):m=s/\og u 4 o=true/\(k.endLine == c.line)=true:=by unfold FA at h;simp only[Bool.and_eq_true]at h;exact⟨aS h.1.1,h.1.2,h.2⟩
theorem h_(h:xU o=true):attributeBase o x B (eval o B)=eval o B:=by unfold xU at h;split at h;all_goals first|rfl|cases h
theorem Ca(h:∀e ∈ O,dH e)(l:O.length < 29):methodCallForm (O.length+([]:List Keyword).length) (backTo J (starEach O B)) (backToKw J (keywordEach [] B))=true:=by
 unfold methodCallForm;have a:=ib (B:=B) (J:=J) h;have s:(backTo J (starEach O B)).all (λx=>!x.1)=true:=by
  rw[bc];intro x k;cases b:x.1 with
  |false=>rfl
  |true=>have:(backTo J (starEach O B)).any (·.1)=true:=nu.mpr ⟨x,k,b⟩;rw[a]at this;cases this
 rw[s];have n:(backToKw J (keywordEach [] B))=[]:=rfl;rw[n];simp;lia
theorem qZ(h:XOk u X)(g:∀x,Good X x (tr u n x)):Good X (.Call (.Attribute o m k) r [] b) (Fy u (tr u n o).e o m (r.map λx=>(tr u n x).e) k b):=by
 unfold Fy;split
 .rename_i c;simp only[Bool.and_eq_true]at c;have l:r.length < 29:=by have:=aS c.2;rwa [a7]at this
  refine .ofE (λf q=>?_) λ_ _=>rfl;obtain⟨x,p,q⟩:=ag q;obtain⟨a,v,rfl⟩:=aq q;obtain⟨d,s⟩:=jY (λe _=>g e) v;have t:=Eo (o:=o) (y:=m) (j:=k) (J:=b) (r:=r) (v:=X.env) (h_ c.1.1) (Ca s l) c.1.2;cases r with
  |nil=>cases v;exact Dq h.meths ((g o).e x p) t
  |cons e i=>exact Gg h.meths ((g o).e x p) d (s e List.mem_cons_self _ _) (ib λy w=>s y (a6 _ w)) t
 .exact .no
variable{tp:Pos}
theorem Li(h:XOk u X)(q:FH u.E t=true)(k:bq u.ks t [.globalImplicit]=true)(o:cE t=true):∃v,JE (yg X.mg t)=some v/\PE X (.Name t tp) (tC v):=by
 rcases vU h.exs q with ⟨C,e,x,_⟩|⟨rfl,e,x⟩
 .exact⟨.ref C,by rw[x];rfl,wD (h.gl k) e rfl (ck o).1⟩
 .exact⟨.ty "ValueError",by rw[x];rfl,wF (h.gl k) e PyProof.Rows.Boot.«ValueError» rfl (by decide) (by decide)⟩
variable{y:Pos}
theorem B6(h:XOk u X)(q:FH u.E t=true)(k:bq u.ks t [.globalImplicit]=true)(o:cE t=true)(e:bq u.ks ("isinstance":Str) [.globalImplicit]=true)(x:PE X a (tE X.K s))(f:dH a) :
  PE X (.Call (.Name "isinstance" y) [a,.Name t tp] [] J) (tV X.K (j' (gB u.E u.R t) s)):=by
 obtain⟨v,n,c⟩:=Li h (tp:=tp) q k o;exact F_ n (Fk h.exs q) (h.gl e) (h.blt ("isinstance":Str) (by decide)) x c (by rw[f];rfl) rfl
variable{f:Str}
theorem BV(h:XOk u X)(r:u.I f=some g)(t:bq u.ks f [.globalImplicit]=true)(q:cE f=true)(b:PA X (a::O) (u_ X.K s))(n:∀e ∈ a::O,dH e) :
  PE X (.Call (.Name f y) (a::O) [] J) (tE X.K (oG g f s)):=by
 obtain⟨C,k,d,w,i,x,p,mk,G,v,c⟩:=h.mks f g r;exact Gh mk G v (h.gl t) p x c b (ck q).1 (n a List.mem_cons_self _ _) (ib λe m=>n e (a6 _ m))
theorem pN:∀n,sW n
 |0=>λu X h e=>Good.no
 |n+1=>by
  have G:=pN n;intro u X h e;have g:=G u X h;unfold tr;split
  .split
   .exact .ofV (λf q=>by cases q;exact Ka) λ_ _=>rfl
   .exact .ofV (λf q=>by cases q;exact Mf) λ_ _=>rfl
   .exact .ofV (λf q=>by cases q;exact J5) λ_ _=>rfl
   .exact .ofV (λf q=>by cases q;exact J2) λ_ _=>rfl
   .exact .no
  .split
   .rename_i x p d;rw[Bool.and_eq_true]at d;refine .ofE (λf q=>?_) λ_ _=>rfl
    obtain⟨i,k,rfl⟩:=aq q;exact Gf i (h.get k) (h.vis d.1) (ck d.2).1 (ck d.2).2
   .split
    .rename_i d;rw[Bool.and_eq_true]at d;refine .ofV (λf q=>?_) λ_ _=>rfl
     obtain⟨v,k,q⟩:=ag q;split at q
     .cases q
     .rename_i hd;cases q;exact Gj (h.gl d.1) ((h.glb _ v k).1 (by simpa using hd)) (ck d.2).1
    .exact .no
  .refine .ofV (λf q=>?_) λ_ _=>rfl;obtain⟨o,k,q⟩:=ag q;obtain⟨x,m,q⟩:=ag q;obtain⟨s,w,rfl⟩:=aq q;exact Mc (Fh h k) ((g _).v x m) ((g _).v s w)
  .split
   .refine .ofV (λf q=>?_) λ_ _=>rfl;obtain⟨x,k,rfl⟩:=aq q;exact J7 ((g _).v x k)
   .refine .ofB (λf q=>?_) λf q=>?_
    .obtain⟨x,k,rfl⟩:=aq q;exact JW ((g _).b x k)
    .obtain⟨x,k,rfl⟩:=aq q;exact J4 ((g _).w x k)
   .exact .no
  .exact .ofB (λf q=>(sY (λe _=>g e) q).pt) λf q=>sZ (λe _=>g e) q
  .split
   .refine .ofC (λf q=>?_) λf q=>?_
    .split at q
     .rename_i g' k;obtain⟨x,m,q⟩:=ag q;obtain⟨s,w,rfl⟩:=aq q;exact Kc (lZ k) ((g _).v x m) ((g _).v s w) (uv _ k)
     .obtain⟨o,k,q⟩:=ag q;obtain⟨x,m,q⟩:=ag q;obtain⟨s,w,rfl⟩:=aq q;exact Gn (xa h k) ((g _).e x m) ((g _).e s w) (wI (by rw[w];rfl))
    .split at q
     .rename_i g' k;obtain⟨x,m,q⟩:=ag q;obtain⟨s,w,rfl⟩:=aq q;exact JX (lZ k) ((g _).v x m) ((g _).v s w) (uv _ k)
     .obtain⟨o,k,q⟩:=ag q;obtain⟨x,m,q⟩:=ag q;obtain⟨s,w,rfl⟩:=aq q;exact Gb (xa h k) ((g _).e x m) ((g _).e s w) (wI (by rw[w];rfl))
   .refine .ofC (λf q=>?_) λf q=>?_
    .obtain⟨o,k,q⟩:=ag q;obtain⟨o',m,q⟩:=ag q;obtain⟨x,w,q⟩:=ag q;obtain⟨s,V,q⟩:=ag q;obtain⟨z,D,rfl⟩:=aq q;exact Dv (lZ k) (lZ m) ((g _).v x w) ((g _).v s V) ((g _).v z D) (tS (by rw[D];rfl))
    .obtain⟨o,k,q⟩:=ag q;obtain⟨o',m,q⟩:=ag q;obtain⟨x,w,q⟩:=ag q;obtain⟨s,V,q⟩:=ag q;obtain⟨z,D,rfl⟩:=aq q;exact Dj (lZ k) (lZ m) ((g _).v x w) ((g _).v s V) ((g _).v z D) (tS (by rw[D];rfl))
   .exact .no
  .rename_i c a b p;have R:∀f,((tr u n c).b.bind λq=>(tr u n a).v.bind λx=>(tr u n b).v.map λs=>CC q x s)=some f->PE X (.IfExp c a b p) (tV X.K f):=λf q=>by
    obtain⟨o,k,q⟩:=ag q;obtain⟨x,m,q⟩:=ag q;obtain⟨s,w,rfl⟩:=aq q;exact Me ((g _).b o k) ((g _).v x m) ((g _).v s w)
   refine⟨R,λf q=>?_,λf q=>(by cases q),λf q=>?_⟩
   .obtain⟨x,k,rfl⟩:=aq (show Option.map eV _=some f from q);exact Fu (R _ k)
   .obtain⟨x,k,rfl⟩:=aq (show Option.map bV _=some f from q);exact we (R _ k)
  .refine .ofV (λf q=>?_) λ_ _=>rfl;obtain⟨x,k,rfl⟩:=aq q;exact J1 (gD (λe _=>g e) k).1
  .refine .ofV (λf q=>?_) λ_ _=>rfl;obtain⟨x,k,rfl⟩:=aq q;exact J8 (gD (λe _=>g e) k).1
  .split
   .exact⟨λf q=>(by cases q;exact J0 yF),λf q=>(by cases q;exact yF),λf q=>(by cases q),λf q=>(by cases q)⟩
   .exact .no
  .split
   .split
    .exact .no
    .rename_i st _ Q;cases st with
     |some _=>exact absurd rfl Q
     |none=>refine .ofV (λf q=>?_) λ_ _=>rfl;obtain⟨x,k,q⟩:=ag q;obtain⟨s,m,q⟩:=ag q;obtain⟨z,w,rfl⟩:=aq q;exact J3 ((g _).v x k) (yM g m) (yM g w)
   .split
    .split
     .rename_i L;obtain⟨c,p,rfl⟩:=nH L;refine .ofE (λf q=>?_) λ_ _=>rfl
      obtain⟨x,k,q⟩:=ag q;obtain⟨s,m,rfl⟩:=aq q;exact J_ (by have:=h.hu;lia) ((g _).e x k) (gD (λe _=>g e) m).1 λ_ _=>rfl
     refine .ofE (λf q=>?_) λ_ _=>rfl;obtain⟨x,k,q⟩:=ag q;obtain⟨s,m,rfl⟩:=aq q;exact J' (by have:=h.hu;lia) ((g _).e x k) ((g _).v s m) (nT (by rw[m];rfl))
    .refine .ofV (λf q=>?_) λ_ _=>rfl;obtain⟨x,k,q⟩:=ag q;obtain⟨s,m,rfl⟩:=aq q;exact Md (by have:=h.hu;lia) ((g _).v x k) ((g _).v s m) (nT (by rw[m];rfl))
  .rename_i fn j kws cp;split
   .exact .no
   .split
    .rename_i f y;split
     .rename_i d;rw[Bool.and_eq_true]at d;split
      .rename_i gf E;split
       .exact .no
       .rename_i F l;refine .ofE (λf q=>?_) λ_ _=>rfl
        obtain⟨x,k,rfl⟩:=aq q;obtain⟨H,S⟩:=jY (λe _=>g e) k;cases j with
        |nil=>exact absurd rfl l
        |cons a O=>exact BV h E d.1 d.2 H S
      split
      .rename_i gf E;split
       .exact .no
       .rename_i F l;split
        .refine .ofV (λf q=>?_) λ_ _=>rfl;obtain⟨x,k,rfl⟩:=aq q;obtain⟨H,S⟩:=jY (λe _=>g e) k;cases j with
         |nil=>exact absurd rfl l
         |cons a O=>exact(uF h E d.1 d.2 H S).1
        .refine .ofV (λf q=>?_) λ_ _=>rfl;obtain⟨x,k,rfl⟩:=aq q;obtain⟨H,S⟩:=gD (λe _=>g e) k;cases j with
         |nil=>exact absurd rfl l
         |cons a O=>exact Cm h E d.1 d.2 H S
      .split
       .exact .no
       .rename_i a;split
        .rename_i C;subst C;refine .ofV (λf q=>?_) λ_ _=>rfl
         obtain⟨x,k,rfl⟩:=aq q;exact J9 (h.gl d.1) (h.blt _ (by decide)) ((g _).e x k) (be (.inr (by rw[k];rfl)) _ _)
        .split
         .rename_i C;subst C;refine .ofV (λf q=>?_) λ_ _=>rfl
          obtain⟨x,k,rfl⟩:=aq q;exact yD (h.gl d.1) (h.blt _ (by decide)) ((g _).e x k) (be (.inr (by rw[k];rfl)) _ _)
         .split
          .rename_i b M;obtain⟨rfl,r,p2,Z,rfl,A⟩:=zO M;refine .ofV (λf q=>?_) λ_ _=>rfl
           obtain⟨x,k,rfl⟩:=aq q;obtain⟨rfl,A⟩:=k4 A;exact A1 h.calm (h.gl d.1) (h.blt _ (by decide)) (h.gl A) (h.blt _ (by decide)) ((g _).v x k) (be (.inl (by rw[k];rfl)) _ _)
          .split
           .rename_i z M;obtain⟨b,c⟩:=z;obtain⟨rfl,r,p2,Z,rfl,A⟩:=xm M;refine .ofE (λf q=>?_) λ_ _=>rfl
            obtain⟨x,k,q⟩:=ag q;obtain⟨s,m,rfl⟩:=aq q;obtain⟨rfl,A⟩:=k4 A;have B:dH b:=be (.inl (by rw[k];rfl));have U:dH c:=be (.inl (by rw[m];rfl));have I:starEach [c] X.env=[(false,eval c X.env)]:=U _ _;exact Ds h.calm (h.gl d.1) (h.blt _ (by decide)) (h.gl A) (h.blt _ (by decide)) ((g _).v x k) ((g _).v s m) (by rw[B,I]) I PyProof.Rows.boot_zip
           refine .ofV (λf q=>?_) λ_ _=>rfl;obtain⟨o,k,q⟩:=ag q;obtain⟨x,m,rfl⟩:=aq q;obtain⟨H,S⟩:=gD (s:=[a]) (λe _=>g e) m;exact Fi h k d.1 H S
       .rename_i a t tp;split
        .rename_i C;subst C;split
         .rename_i W;split
          .rename_i T k;refine .ofV (λf q=>?_) λ_ _=>rfl
           obtain⟨x,m,rfl⟩:=aq q;exact EU h k d.1 W ((g _).e x m) (be (.inr (by rw[m];rfl)))
          .split
           .rename_i N;rw[Bool.and_eq_true]at N;refine .ofV (λf q=>?_) λ_ _=>rfl
            obtain⟨x,m,rfl⟩:=aq q;exact B6 h N.1 W N.2 d.1 ((g _).e x m) (be (.inr (by rw[m];rfl)))
           .exact .no
         .exact .no
        .exact .no
       .exact .no
     .exact .no
    .split
     .split
      .rename_i d;obtain⟨rfl,K,P⟩:=rL d;refine .ofE (λf q=>?_) λ_ _=>rfl
       obtain⟨x,k,q⟩:=ag q;obtain⟨s,m,rfl⟩:=aq q;exact A6 ((g _).e x k) ((g _).e s m) (be (.inr (by rw[m];rfl)) _ _) (gJ K (by decide)) P
      .split
       .rename_i d;obtain⟨rfl,K,P⟩:=rL d;refine .ofE (λf q=>?_) λ_ _=>rfl
        obtain⟨x,k,q⟩:=ag q;obtain⟨s,m,rfl⟩:=aq q;exact A5 ((g _).e x k) ((g _).v s m) (be (.inl (by rw[m];rfl)) _ _) (gJ K (by decide)) P
       .split
        .rename_i d;simp only[Bool.and_eq_true]at d;have J:=aS d.1.1;subst J;refine .ofV (λf q=>?_) λ_ _=>rfl
         obtain⟨x,k,q⟩:=ag q;obtain⟨s,m,rfl⟩:=aq q;exact Dr h.hu ((g _).v x k) ((g _).v s m) (be (.inl (by rw[m];rfl)) _ _) (h_ d.1.2) d.2
        .split
         .rename_i L;obtain⟨c,p,rfl⟩:=nH L;split
          .rename_i d;obtain⟨rfl,K,P⟩:=rL d;refine .ofE (λf q=>?_) λ_ _=>rfl
           obtain⟨x,k,q⟩:=ag q;obtain⟨s,m,rfl⟩:=aq q;exact Gk (by have:=h.hu;lia) ((g _).e x k) (gD (λe _=>g e) m).1 ⟨gJ K (by decide),rfl,P,rfl⟩
          .exact qZ h g (r:=[_])
         .exact qZ h g (r:=[_])
     .rename_i j _ _;split
      .rename_i d;simp only[Bool.and_eq_true]at d;have J:=aS d.1.1;subst J;split
       .rename_i a b _;refine .ofV (λf q=>?_) λ_ _=>rfl
        obtain⟨x,k,q⟩:=ag q;obtain⟨s,m,q⟩:=ag q;obtain⟨z,w,rfl⟩:=aq q;have B:dH a:=be (.inl (by rw[m];rfl));have U:dH b:=be (.inl (by rw[w];rfl));have I:starEach [b] X.env=[(false,eval b X.env)]:=U _ _;have Y:starEach [a,b] X.env=[(false,eval a X.env),(false,eval b X.env)]:=by rw[B,I]
        exact Do (by have:=h.hu;lia) ((g _).v x k) ((g _).v s m) ((g _).v z w) ⟨h_ d.1.2,by rw[Y];rfl,d.2,by rw[Y];rfl⟩
       .exact .no
      .split
       .rename_i es;obtain⟨p,rfl⟩:=y4 es;split
        .rename_i d;obtain⟨rfl,K,P⟩:=rL d;refine .ofE (λf q=>?_) λ_ _=>rfl
         obtain⟨x,k,q⟩:=ag q;obtain⟨s,m,rfl⟩:=aq q;have B:dH _:=be (.inl (by rw[m];rfl));exact A3 ((g _).e x k) ((g _).v s m) (CA Fo) ⟨gJ K (by decide),by rw[B];rfl,P,by rw[B];rfl⟩
        .exact qZ h g
       .exact qZ h g
    .exact .no
  .split
   .rename_i d;refine .ofE (λf q=>?_) λ_ _=>rfl
    obtain⟨x,k,rfl⟩:=aq q;exact Kb h.attrs ((g _).e x k) (h_ d)
   .exact .no
  .split
   .refine .ofV (λf q=>?_) λ_ _=>rfl;exact(uw h G q).1
   .exact .no
  .exact .no
theorem yP(h:XOk u X)(n:Nat):∀(k:Nat){e:Expr}{f:EE},GD u n k e=some f->PE X e (tE X.K f)
 |k,e,f,q=>by
  have g:=pN n u X h;unfold GD at q;split at q
  .rename_i z t;obtain⟨d,r⟩:=z;obtain⟨y,v,rfl⟩:=f8 t;dsimp only at q;split at q
   .rename_i c;simp only[Bool.and_eq_true]at c;split at q
    .rename_i w m;obtain⟨x,p,rfl⟩:=aq q;obtain⟨s,b⟩:=jY (λe _=>g e) p;cases r with
     |nil=>simp at c
     |cons a O=>exact(uF h m c.1.1.1 c.1.1.2 s b).2
    .exact (g _).e f q
   .exact (g _).e f q
  .exact (g _).e f q
def u7(T:Stmt->Option ES):List Stmt->Option ES
 | []=>some ff
 | [s]=>T s
 |s::r=>(T s).bind λf=>(u7 T r).map λg=>af f g
noncomputable def CV:Expr->Option (Ab)
 | .List e _=>some e
 |_=>none
noncomputable def kD:Expr->Bool
 | .ListComp ..=>true
 |_=>false
noncomputable def EY:Expr->Bool
 | .Dict k v _=>k.isEmpty && v.isEmpty
 |_=>false
theorem B9(h:EY e=true):∃p,e=.Dict [] [] p:=by
 unfold EY at h;split at h
 .rw [Bool.and_eq_true]at h;rw[List.isEmpty_iff.mp h.1,List.isEmpty_iff.mp h.2];exact⟨_,rfl⟩
 .cases h
theorem j0(h:kD e=false):∀a b c d,e≠.ListComp a b c d:=λa b c d z=>by subst z;cases h
def Ct:Stmt->Option (Str×Expr)
 | .Assign ts v _=>(o4 ts).bind λt=>(En t).map λx=>(x,v)
 |_=>none
theorem xi(h:Ct s=some (x,v)):∃f a,s=.Assign [.Name x f] v a:=by
 unfold Ct at h;split at h
 .obtain⟨t,e,h⟩:=ag h;obtain⟨b,n,k⟩:=fu.mp h;obtain⟨p,rfl⟩:=rK n;cases k;rw[g_ e];exact⟨_,_,rfl⟩
 .cases h
def HZ:ExceptHandler->Option (Str×Str×List Stmt)
 | .ExceptHandler t n b _=>t.bind λt=>n.bind λn=>(En t).map λc=>(c,n,b)
theorem B_{e:ExceptHandler}{c n:Str}{b:List Stmt}(h:HZ e=some (c,n,b)):∃k o,e=.ExceptHandler (some (.Name c k)) (some n) b o:=by obtain⟨t,m,x,p⟩:=e;obtain⟨q,rfl,h⟩:=ag (show(t.bind λt=>m.bind λn=>(En t).map λc=>(c,n,x))=_ from h);obtain⟨r,rfl,h⟩:=ag h;obtain⟨f,a,s⟩:=fu.mp h;obtain⟨p,rfl⟩:=rK a;cases s;exact⟨_,_,rfl⟩
def CG(u:Cn)(T:Expr->Tr)(b:List Stmt)(p:List ExceptHandler)(e m:List Stmt):Option ES:=if (e.isEmpty && m.isEmpty)=true then
  (o4 b).bind λs=>(Ct s).bind λx=>(kh x.2).bind λf=>(o4 p).bind λh=>(HZ h).bind λc=>(o4 c.2.2).bind λq=>(Ct q).bind λy=>(En y.2).bind λz=>(u.Y f.1).bind λg=>
   if (bq u.ks x.1 [.local,.cell] && bq u.ks y.1 [.local,.cell] && bq u.ks f.1 [.globalImplicit] && cE f.1 && !f.2.isEmpty && bq u.ks c.1 [.globalImplicit] && cE c.1 && (u.E.any λw=>decide (w.1=c.1)) && bq u.ks c.2.1 [.local] && decide (z=c.2.1) && cE c.2.1)=true then
    (iz u.N x.1).bind λi=>(iz u.N y.1).bind λj=>(iz u.N c.2.1).bind λk=>(T x.2).e.bind λt=>(nI (f.2.map λw=>(T w).e)).map λa=>
     vh (am i t) (jA g a) (λr=>u.R.contains r && (u.E.lookup r).any λn=>n.contains c.1) k (am j (aa k))
   else none
 else none
def CH(u:Cn):Nat->Stmt->Option ES
 |0,_=>none
 |n+1,st=>match st with
  | .Assign ts v _=>match ts with
   | [t]=>(match t with
   | .Name x _=>if bq u.ks x [.local,.cell]=true then (iz u.N x).bind λi=>if (u.deep.contains x && !kD v)=true then (GD u n 5 v).map (am i) else match w_ u v with
    |some a=>if u.own.contains x=true then (tr u n a).v.map λf=>am i (wZ f) else (tr u n v).e.map (am i)
    |none=>match CV v with
    |some s=>if u.own.contains x=true then (oX (s.map λy=>(tr u n y).v)).map λa=>am i (cD a) else (tr u n v).e.map (am i)
    |none=>(tr u n v).e.map (am i)
   else none
   | .Subscript o i _=>(match tm i with
   |some s=>(tr u n o).e.bind λx=>(oX (s.map λz=>(tr u n z).v)).bind λy=>if kD v=true then none else (tr u n v).v.map λz=>ww x y z
   |none=>(tr u n o).e.bind λx=>(tr u n i).v.bind λy=>if kD v=true then none else (tr u n v).v.map λz=>dI x y z)
   | .Attribute o f _=>if (EY v && u.deep.contains f)=true then (tr u n o).e.map λx=>kS u.A x f sf else if kD v=true then none else (tr u n o).e.bind λx=>(GD u n 5 v).map λz=>kS u.A x f z
   | .Tuple s c p=>if (kD v ||z4 v)=true then none else (yL u.N u.ks [.local,.cell] (.Tuple s c p)).bind λg=>(tr u n v).v.map λz=>tw g z
   |_=>none)
   |_=>none
  | .Return r _=>r.bind λe=>(tr u n e).e.map aI
  | .Expr e _=>if kD e=true then none else (tr u n e).e.map bN
  | .Raise ..=>some rj
  | .Try b k l h _=>CG u (λy=>tr u n y) b k l h
  | .If c a b _=>(tr u n c).b.bind λq=>(u7 (CH u n) a).bind λx=>(u7 (CH u n) b).map λy=>dW q x y
  | .For U iter d l _=>if l.isEmpty=false then none else (yL u.N u.ks [.local,.cell] U).bind λg=>(yO u (λy=>tr u n y) U iter).bind λm=>(u7 (CH u n) d).map λb=>cb m g b
  |_=>none
theorem jF{v:Expr}{t:Option Expr}{line:Nat}{B:Env}(h:∀a b c d,v≠.ListComp a b c d)(x:∀a b c d,v≠.SetComp a b c d)(s:∀a b c d e,v≠.DictComp a b c d e):swapsWith v t line B=pure false:=by cases v<;>first|rfl|exact absurd rfl (h _ _ _ _)|exact absurd rfl (x _ _ _ _)|exact absurd rfl (s _ _ _ _ _)
theorem tK(h:(tr u n e).e.isSome=true):(∀a b c d,e≠.SetComp a b c d)/\∀a b c d f,e≠.DictComp a b c d f:=by
 cases n with
 |zero=>cases h
 |succ n=>exact⟨λa b c d z=>(by subst z;cases h),λa b c d f z=>(by subst z;cases h)⟩
theorem Ke{u:Cn}{n:Nat}{e:Expr}{f:EV}(h:(tr u n e).v=some f)(l:∀a b c d,e≠.ListComp a b c d):(∀a b c d,e≠.SetComp a b c d)/\∀a b c d g,e≠.DictComp a b c d g:=by
 cases n with
 |zero=>cases h
 |succ n=>exact⟨λa b c d z=>(by subst z;cases h),λa b c d f z=>(by subst z;cases h)⟩
theorem CI{u:Cn}{n k:Nat}{e:Expr}{f:EE}(h:GD u n k e=some f):(∀a b c d,e≠.SetComp a b c d)/\∀a b c d g,e≠.DictComp a b c d g:=by
 cases n with
 |zero=>exact⟨λa b c d z=>(by subst z;cases h),λa b c d f z=>(by subst z;cases h)⟩
 |succ n=>exact⟨λa b c d z=>(by subst z;cases h),λa b c d f z=>(by subst z;cases h)⟩
theorem tF(h:(tr u n e).v.isSome=true):oU e:=by
 intro o J B v;cases n with
 |zero=>cases h
 |succ n=>cases e<;>first|rfl|cases h
theorem zG{e:Ab}{c:Nat}{p:Pos}{v:Expr}{B:Env}(h:z4 v=false):swappedStores [.Tuple e c p] v B=pure none:=by cases v<;>first|rfl|cases h
theorem Bg{u:Cn}{n:Nat}{e:Expr}{g:List Comprehension}{j:Scope}{J:Pos}{f:EE}(h:(tr u n (.ListComp e g j J)).e=some f) :
  ∃k U iter i s,n=k+1/\g=[⟨U,iter,i,0⟩]/\nJ u (λa x=>tr a k x) e U iter i j=some s/\f=eV s:=by
 cases n with
 |zero=>cases h
 |succ n=>
  unfold tr at h;dsimp only at h;split at h
  .obtain⟨x,q,rfl⟩:=aq (show Option.map eV _=some f from h);exact⟨n,_,_,_,x,rfl,rfl,q,rfl⟩
  .cases h
theorem kP(h:∀st f,T st=some f->PS X st (jn X.K f)):∀{a:List Stmt}{f:ES},u7 T a=some f->jW X a (jn X.K f)
 | [],f,q=>by cases q;exact JS
 | [s],f,q=>Dg (h s f q)
 |s::t::r,f,q=>by obtain⟨x,e,q⟩:=ag q;obtain⟨y,n,rfl⟩:=aq q;exact F7 (h s x e) (kP h n)
theorem XOk.more(h:XOk u X)(E:VP)(p:PN):XOk u (kX X E p):=⟨h.hN,h.nd,h.ks,h.kd,h.calm,h.hu,h.fns,h.blt,h.glb,h.attrs,h.meths,h.mks,h.exs,h.ys⟩
structure OnStack(X:Cx):Prop where
 stk:X.stack=X.env::X.outer
 frm:X.env.frame=some X.env.locals
 ex:X.ex=[]
theorem Cu{u:Cn}{X:Cx}(h:XOk u X){n:Nat}{a:Ab}{O:l8}(q:nI (a.map λw=>(tr u n w).e)=some O):PA X a (u_ X.K O)/\∀e ∈ a,dH e:=jY (λe _=>pN n u X h e) q
theorem uE{u:Cn}{X:Cx}(h:XOk u X){n:Nat}{f:Str}{y p:Pos}{r:Ab}{O:l8}{g:GX}(Y:u.Y f=some g)(c:bq u.ks f [.globalImplicit]=true)(m:cE f=true)(t:r.isEmpty=false)(z:nI (r.map λw=>(tr u n w).e)=some O):PE X (.Call (.Name f y) r [] p) (GL X (jA g O)):=by
 obtain⟨l,k,o,H,S,G,j,i,d,q⟩:=h.ys f g Y;obtain⟨s,x⟩:=Cu h z;cases r with
 |nil=>cases t
 |cons a b=>exact Dl G l j (h.gl c) i d q s (ck m).1 (x a List.mem_cons_self _ _) (ib λe v=>x e (a6 _ v))
theorem DD{u:Cn}{X:Cx}(h:XOk u X)(t:∀x,X.fn x=true)(P:OnStack X){n:Nat}{x a c f d:Str}{M y S A np yp zp H o J:Pos}{r:Ab}{I:GX}{i j k:Nat}{K:EE}{O:l8}(Z:u.Y f=some I)
  (B:bq u.ks x [.local,.cell]=true) (Q:bq u.ks a [.local,.cell]=true) (R:bq u.ks f [.globalImplicit]=true) (T:cE f=true) (U:r.isEmpty=false) (V:bq u.ks c [.globalImplicit]=true) (W:cE c=true) (D:(u.E.any λw=>decide (w.1=c))=true) (G:bq u.ks d [.local]=true) (q:cE d=true)
  (qi:iz u.N x=some i) (qj:iz u.N a=some j) (L:iz u.N d=some k) (q1:(tr u n (.Call (.Name f y) r [] S)).e=some K) (q2:nI (r.map λw=>(tr u n w).e)=some O) :
  PS X (.Try [.Assign [.Name x M] (.Call (.Name f y) r [] S) A] [.ExceptHandler (some (.Name c np)) (some d) [.Assign [.Name a yp] (.Name d zp) H] o] [] [] J) (jn X.K (vh (am i K) (jA I O) (λm=>u.R.contains m && (u.E.lookup m).any λs=>s.contains c) k (am j (aa k)))):=by
 obtain⟨N,ns2,g⟩:=h.exs.own c D;have l:swapsWith (.Call (.Name f y) r [] S) (some (.Name x M)) A.line X.env=pure false:=rfl;refine FX P.stk P.frm P.ex h.nd (h.gl V) g (ck W).1 (h.get L) (h.local G) (λE p=>?_) (λE p=>?_) (λe=>?_) λm C v ns=>?_
 .have b:=h.more E p;exact Dg (X:=kX X E p) (uZ (X:=kX X E p) i b.nd ((pN n u _ b _).e K q1) (b.get qi) (b.loc B) l (.inl (t x)))
 .have b:=h.more E p;exact rk (Gq (X:=kX X E p) i b.nd (uE b Z R T U q2) (b.get qi) (b.loc B) l (.inl (t x)))
 .exact Dg (X:=jC X e) (uZ (X:=jC X e) j h.nd (Gf (X:=jC X e) k (h.get L) (.inl (h.local G)) (ck q).1 (ck q).2) (h.get qj) (h.loc Q) rfl (.inl (t a)))
 .obtain⟨Y,z⟩:=Bool.and_eq_true_iff.mp (show(u.R.contains m && (u.E.lookup m).any λs=>s.contains c)=true from v);cases F:u.E.lookup m with
  |none=>rw[F]at z;cases z
  |some s=>rw[F]at z;exact((h.exs.cl m s C Y F ns).2.2.2 c N D g).2 z
theorem u9{u:Cn}{X:Cx}(h:XOk u X)(w:∀x,X.fn x=true)(hp:PassesOwn (model X.prog X.w) X.A X.env X.xe)(hs:OnStack X):∀n (st:Stmt) (f:ES),CH u n st=some f->PS X st (jn X.K f)
 |0,st,f,q=>by cases q
 |n+1,st,f,q=>by
  have Z:=u9 h w hp hs n;have g:=pN n u X h;unfold CH at q;split at q
  .split at q
   .split at q
    .rename_i l E _ _ x I;split at q
     .rename_i D;obtain⟨i,qi,q⟩:=ag q;split at q
      .rename_i hd;rw[Bool.and_eq_true]at hd;obtain⟨R,r,rfl⟩:=aq q;obtain⟨S,F⟩:=CI r;exact uZ i h.nd (yP h n 5 r) (h.get qi) (h.loc D) (jF (j0 (by simpa using hd.2)) S F) (.inl (w x))
      have plain:(tr u n l).e.map (am i)=some f->PS X (.Assign [.Name x I] l E) (jn X.K f):=λq=>by
       obtain⟨R,r,rfl⟩:=aq q;by_cases hl:∃a b c d,l=.ListComp a b c d
       .obtain⟨a,b,c,d,rfl⟩:=hl;obtain⟨k,U,iter,C,f',rfl,rfl,H,rfl⟩:=Bg r;have cu:=uw (J:=d) h (pN k) H;have L:swapsWith (.ListComp a [⟨U,iter,C,0⟩] c d) (some (.Name x I)) E.line X.env=pure (X.env.blockKind == .function && X.env.kindOf x == some .local && I.line == (Expr.ListComp a [⟨U,iter,C,0⟩] c d).pos.line
         && !(c.names.any λ(n,k)=>n == x && (k == .local ||k == .cell))):=rfl
        cases hb:(X.env.blockKind == .function && X.env.kindOf x == some .local && I.line == (Expr.ListComp a [⟨U,iter,C,0⟩] c d).pos.line && !(c.names.any λ(n,k)=>n == x && (k == .local ||k == .cell))) with
        |true=>rw[hb]at L;exact cu.2 i h.nd L (h.get qi) (h.loc D) (.inl (w x))
        |false=>rw[hb]at L;exact uZ i h.nd (Fu cu.1) (h.get qi) (h.loc D) L (.inl (w x))
       .have K:∀a b c d,l≠.ListComp a b c d:=λa b c d z=>hl ⟨a,b,c,d,z⟩;obtain⟨S,F⟩:=tK (show(tr u n l).e.isSome=true by rw[r];rfl);exact uZ i h.nd ((g l).e R r) (h.get qi) (h.loc D) (jF K S F) (.inl (w x))
      split at q
      .rename_i ca T;split at q
       .obtain⟨fa,r,rfl⟩:=aq q;obtain⟨lr,lp,lc,rfl,B⟩:=vW T;obtain⟨rfl,B⟩:=k4 B;exact uZ i h.nd (Dp (h.gl B) (h.blt _ (by decide)) ((g _).v fa r) (be (.inl (by rw[r];rfl)) _ _)) (h.get qi) (h.loc D) rfl (.inl (w x))
       .exact plain q
      split at q
      .rename_i es A;split at q
       .obtain⟨a,r,rfl⟩:=aq q;unfold CV at A;split at A
        .cases A;exact uZ i h.nd (CA (gD (λe _=>g e) r).1) (h.get qi) (h.loc D) rfl (.inl (w x))
        .cases A
       .exact plain q
      .exact plain q
     .cases q
    .rename_i l E _ _ o i ip;split at q
     .rename_i et;obtain⟨c,p,rfl⟩:=nH et;obtain⟨x,r,q⟩:=ag q;obtain⟨m,H,q⟩:=ag q;split at q
      .cases q
      .rename_i t;obtain⟨z,P,rfl⟩:=aq q;have K:∀a b c d,l≠.ListComp a b c d:=j0 (by simpa using t);obtain⟨S,F⟩:=Ke P K;exact FY (by have:=h.hu;lia) ((g o).e x r) (gD (λe _=>g e) H).1 ((g l).v z P) (jF K S F)
     obtain⟨x,r,q⟩:=ag q;obtain⟨m,H,q⟩:=ag q;split at q
     .cases q
     .rename_i t;obtain⟨z,P,rfl⟩:=aq q;have K:∀a b c d,l≠.ListComp a b c d:=j0 (by simpa using t);obtain⟨S,F⟩:=Ke P K;exact F0 (by have:=h.hu;lia) ((g o).e x r) ((g i).v m H) ((g l).v z P) (jF K S F) rfl (tF (by rw[H];rfl))
    .rename_i l E _ _ o f ap;split at q
     .rename_i hd;rw[Bool.and_eq_true]at hd;obtain⟨p,rfl⟩:=B9 hd.1;obtain⟨x,r,rfl⟩:=aq q;exact F5 h.attrs ((g o).e x r) Dt (jF (λ_ _ _ _ z=>nomatch z) (λ_ _ _ _ z=>nomatch z) λ_ _ _ _ _ z=>nomatch z)
     split at q
     .cases q
     .rename_i t;obtain⟨x,r,q⟩:=ag q;obtain⟨z,H,rfl⟩:=aq q;obtain⟨S,F⟩:=CI H;exact F5 h.attrs ((g o).e x r) (yP h n 5 H) (jF (j0 (by simpa using t)) S F)
    .rename_i l E _ _ es c p;split at q
     .cases q
     .rename_i t;rw[jv,not_or]at t;obtain⟨gg,r,q⟩:=ag q;obtain⟨z,P,rfl⟩:=aq q;have K:∀a b c d,l≠.ListComp a b c d:=j0 (by simpa using t.1);obtain⟨S,F⟩:=Ke P K;exact JP ((g l).v z P) (tg_ok h.calm h.hN h.nd (λx Y=>⟨h.loc Y,.inl (w x)⟩) r) (show swapsWith l (some (.Tuple es c p)) E.line X.env=pure false from jF K S F) (zG (by simpa using t.2)) rfl
    .cases q
   .cases q
  .obtain⟨e,rfl,q⟩:=ag q;obtain⟨x,r,rfl⟩:=aq q;exact JQ ((g _).e x r)
  .split at q
   .cases q
   .rename_i t;obtain⟨x,r,rfl⟩:=aq q;obtain⟨S,F⟩:=tK (by rw[r];rfl);exact F6 ((g _).e x r) (jF (j0 (by simpa using t)) S F)
  .cases q;exact Dh
  .unfold CG at q;split at q
   .rename_i V;rw[Bool.and_eq_true]at V;cases List.isEmpty_iff.mp V.1;cases List.isEmpty_iff.mp V.2;obtain⟨s,b1,p0⟩:=ag q;obtain⟨⟨x,v⟩,b2,p1⟩:=ag p0;obtain⟨⟨f,args⟩,b3,p2⟩:=ag p1;obtain⟨hh,b4,p3⟩:=ag p2;obtain⟨⟨c,nm,bb⟩,b5,p4⟩:=ag p3;obtain⟨s2,b6,p5⟩:=ag p4;obtain⟨⟨m,v2⟩,b7,p6⟩:=ag p5;obtain⟨z,b8,p7⟩:=ag p6;obtain⟨gx,hY,G⟩:=ag p7;clear q p0 p1 p2 p3 p4 p5 p6 p7;obtain⟨y,cp,rfl⟩:=f8 b3;obtain⟨xp,ap,rfl⟩:=xi b2;obtain⟨zp,rfl⟩:=rK b8;obtain⟨yp,ap2,rfl⟩:=xi b7;cases g_ b6;obtain⟨np,hpos,rfl⟩:=B_ b5;cases g_ b1;cases g_ b4;dsimp only at G;split at G
    .rename_i hc;simp only[Bool.and_eq_true,Bool.not_eq_true']at hc;obtain⟨⟨⟨⟨⟨⟨⟨⟨⟨⟨c1,c2⟩,c3⟩,c4⟩,c5⟩,c6⟩,c7⟩,c8⟩,c9⟩,M⟩,N⟩:=hc;obtain⟨i,qi,q⟩:=ag G;obtain⟨j,qj,q⟩:=ag q;obtain⟨kk,qk,q⟩:=ag q;obtain⟨R,r,q⟩:=ag q;obtain⟨O,H,rfl⟩:=aq q;cases aS M;exact DD h w hs hY c1 c2 c3 c4 c5 c6 c7 c8 c9 N qi qj qk r H
    .cases G
   .cases q
  .obtain⟨c,r,q⟩:=ag q;obtain⟨x,H,q⟩:=ag q;obtain⟨m,P,rfl⟩:=aq q;exact L_ ((g _).b c r) (kP Z H) (kP Z P)
  .split at q
   .cases q
   rename_i Q _ W;obtain⟨gg,q0,q⟩:=ag q;obtain⟨it,r,q⟩:=ag q;obtain⟨b,H,rfl⟩:=aq q;cases Q with
   |cons _ _=>exact absurd rfl W
   |nil=>
   exact JT hp h.calm (CS h g r) (tg_ok h.calm h.hN h.nd (λx Y=>⟨h.loc Y,.inl (w x)⟩) q0) (kP Z H) λx=>t3 r _ x
  .cases q
def Bh(T:Stmt->Option ES)(h:Stmt->EX):List Stmt->EX
 | []=>Cz
 | [s]=>h s
 |s::r=>match T s with
  |some f=>yE f (h s) (Bh T h r)
  |none=>h s
def DH(u:Cn)(e c:Option Expr):Option EX:=if c.isSome=true then none else e.bind λe=>(kh e).bind λz=>if (z.2.isEmpty && u.R.contains z.1 && bq u.ks z.1 [.globalImplicit] && cE z.1)=true then some (qX z.1) else none
def GB(u:Cn)(n:Nat)(e:Option Expr):Option EX:=e.bind λe=>(kh e).bind λz=>(u.Y z.1).bind λg=>(nI (z.2.map λw=>(tr u n w).e)).bind λO=>if (bq u.ks z.1 [.globalImplicit] && cE z.1 && !z.2.isEmpty)=true then some (jA g O) else none
def Kj(u:Cn)(n:Nat):Stmt->EX
 | .Raise e c _=>(DH u e c).getD Cz
 | .Return e _=>(GB u n e).getD Cz
 |_=>Cz
theorem wr(a:∀st f,T st=some f->PS X st (jn X.K f))(x:∀st,PS X st (tX X (k st))):∀h:List Stmt,jW X h (tX X (Bh T k h))
 | []=>JZ
 | [s]=>Gd (x s)
 |s::t::r=>by
  unfold Bh;split
  .rename_i n e;exact Dk (a s n e) (x s) (wr a x (t::r))
  .exact (kU (x s) (lJ (X:=X))).imp' λ_ _ _ z=>z
theorem DG(h:XOk u X)(n:Nat)(st:Stmt):PS X st (tX X (Kj u n st)):=by
 unfold Kj;split
 .rename_i e c _;cases q:DH u e c with
  |none=>exact Dy
  |some f=>
   unfold DH at q;split at q
   .cases q
   rename_i g;cases c with
   |some _=>exact absurd rfl g
   |none=>
    obtain⟨e,rfl,a⟩:=ag q;obtain⟨⟨c,O⟩,b,p⟩:=ag a;clear q a;obtain⟨_,_,rfl⟩:=f8 b;split at p
    .rename_i x;cases p;simp only[Bool.and_eq_true]at x;obtain⟨⟨⟨v,k⟩,d⟩,w⟩:=x;cases List.isEmpty_iff.mp v;obtain⟨C,r,_⟩:=h.exs.own _ (h.exs.rE _ k);obtain⟨m,q⟩:=h.exs.rs _ C k r;exact A7 h.calm (h.gl d) r m q (ck w).1
    .cases p
 .rename_i e _;cases q:GB u n e with
  |none=>exact Dy
  |some f=>
   obtain⟨e,rfl,a⟩:=ag q;obtain⟨⟨j,O⟩,b,p⟩:=ag a;obtain⟨y,Y,t⟩:=ag p;obtain⟨l,i,s⟩:=ag t;clear q a p t;obtain⟨_,_,rfl⟩:=f8 b;split at s
   .rename_i x;cases s;simp only[Bool.and_eq_true,Bool.not_eq_true']at x;exact(Gr (uE h Y x.1.1 x.1.2 x.2 i)).imp' λ_ _ _ z=>Kl z
   .cases s
 .exact Dy
structure Df where
 name:Str
 short:Str
 cls:Str
 st:Stmt
 N:LS
 ps:LS
 own:LS
 deep:LS
 refs:LS
noncomputable abbrev At:=List (Str×LS)
noncomputable def aT(T:At)(c f:Str):Bool:=T.any λx=>decide (x.1=c) && x.2.contains f
noncomputable def fT(D:List Df)(h:Str->GF)(x:Str):Option GF:=if (D.any λd=>decide (d.name=x) && d.cls.cps.isEmpty)=true then some (h x) else none
noncomputable def CU(c m:Str)(d:Df):Bool:=decide (d.cls=c) && decide (d.short=m) && !d.cls.cps.isEmpty
def mT(D:List Df)(h:Str->GF)(c m:Str):Option GF:=if m=("__init__":Str) then none else (D.find? (CU c m)).map λd=>h d.name
def K7(D:List Df)(h:Str->GF)(c:Str):Option GF:=(D.find? (CU c "__init__")).map λd=>h d.name
noncomputable abbrev Ex:=List (Str×LS)
noncomputable abbrev P3:=(Str->GF)×(Str->Option GF)×(Str->GX)
noncomputable def JU(D:List Df)(h:Str->GX)(x:Str):Option GX:=if (D.any λd=>decide (d.name=x) && d.cls.cps.isEmpty)=true then some (h x) else none
def FF(G:Str->Option P)(T:At)(E:Ex)(R:LS)(D:List Df)(p:P3)(d:Df):Cn:=⟨d.N,d.own,d.deep,d.refs,(aF d.st).names,fT D p.1,G,aT T,mT D p.1,p.2.1,E,R,JU D p.2.2⟩
def sP(G:Str->Option P)(T:At)(E:Ex)(R:LS)(D:List Df)(p:P3)(d:Df):ES:=(u7 (CH (FF G T E R D p d) 60) (cW d.st)).getD rj
def uH(G:Str->Option P)(T:At)(E:Ex)(R:LS)(D:List Df)(p:P3)(d:Df):EX:=Bh (CH (FF G T E R D p d) 60) (Kj (FF G T E R D p d) 60) (cW d.st)
noncomputable def jN(R:LS)(g:GX):GX:=λd S=>(g d S).bind λz=>if R.contains z.1=true then some z else none
def j9(G:Str->Option P)(T:At)(E:Ex)(R:LS)(D:List Df):Nat->P3
 |0=>(λ_ _ _=>none,λ_=>none,λ_ _ _=>none)
 | n+1=>(fun x=>match D.find? fun d=>decide (d.name=x) with
  |some d=>cM d.ps.length d.N.length (sP G T E R D (j9 G T E R D n) d)
  |none=>λ_ _=>none,K7 D (j9 G T E R D n).1,λx=>match D.find? λd=>decide (d.name=x) with
  |some d=>jN R (fnX d.ps.length d.N.length (uH G T E R D (j9 G T E R D n) d))
  |none=>λ_ _=>none)
noncomputable def IT(G:Str->Option P)(T:At)(E:Ex)(R:LS)(D:List Df)(n:Nat):Str->GF:=(j9 G T E R D n).1
noncomputable def IS(G:Str->Option P)(T:At)(E:Ex)(R:LS)(D:List Df)(n:Nat):Str->GX:=(j9 G T E R D n).2.2
variable{S:aD}
theorem t6(h:jN R g d S=some z):g d S=some z/\R.contains z.1=true:=by
 obtain⟨y,e,q⟩:=Option.bind_eq_some_iff.mp h;split at q
 .rename_i c;cases q;exact⟨e,c⟩
 .cases q
def Jg(d:Df):Bool:=decide ((aF d.st).kind=.function) && !(aF d.st).isCoroutine && !(aF d.st).isGenerator && decide d.N.Nodup && decide (d.N.take d.ps.length=d.ps)
 && d.ps.all (λx=>(aF d.st).names.lookup x == some .local ||(aF d.st).names.lookup x == some .cell) && (aF d.st).names.all (λy=>y.2 != .free)
theorem DR(h:Jg d=true):FnScope d.N d.ps (aF d.st):=by
 unfold Jg at h;simp only[Bool.and_eq_true]at h;obtain⟨⟨⟨⟨⟨⟨a,e⟩,s⟩,n⟩,k⟩,f⟩,b⟩:=h;refine⟨aS a,by simpa using e,by simpa using s,aS n,aS k,λx c=>?_,λy m=>?_⟩
 .have:=bc.mp f x c;simpa using this
 .have:=bc.mp b y m;simpa using this
structure DOk(K:FG)(mg:SV)(d:Df)(f:Addr)(fd:FuncData):Prop where
 fn:Fun K d.short d.name d.st f fd
 bd:Binds K fd d.ps []
 gl:d.cls.cps.isEmpty=true->mg d.name=some (.ref f)
 cl:d.cls.cps.isEmpty=false->∃C,jg K d.cls C/\mg d.cls=some (.ref C)/\Cls K C/\(d.short=("__init__":Str)->Mk K C f)/\(d.short≠("__init__":Str)->Meth K C d.short f)
structure TOk(w:World)(G:Str->Option P)(T:At)(E:Ex)(R:LS)(D:List Df)(K:FG)(mg:SV):Prop where
 ex:ExsOk K mg E R
 fn:∀d ∈ D,∃f fd,DOk K mg d f fd
 sc:D.all Jg=true
 un:(D.map (·.name)).Nodup
 z:∀x ∈ Cq,mg x=none
 gl:∀x v,G x=some v->lj w K mg x v
 at':JO K (aT T)
theorem kF:∀{D:List Df}{d:Df},(D.map (·.name)).Nodup->d ∈ D->(D.find? λe=>decide (e.name=d.name))=some d
 | [],_,_,h=>by cases h
 |a::r,d,x,h=>by
  rw[List.map_cons,List.nodup_cons]at x;rcases ba.mp h with h|h
  .subst h;simp
  .have n:¬a.name=d.name:=λz=>x.1 (by rw[z];exact cN.mpr ⟨d,h,rfl⟩);rw[List.find?_cons_of_neg (by simpa using n)];exact kF x.2 h
theorem AQ{D:List Df}{x:Str}{a:Str->GF}{g:GF}(h:fT D a x=some g):∃d ∈ D,d.name=x/\d.cls.cps.isEmpty=true/\g=a x:=by
 unfold fT at h;split at h
 .rename_i c;cases h;obtain⟨d,hd,e⟩:=nu.mp c;rw[Bool.and_eq_true]at e;exact⟨d,hd,aS e.1,e.2,rfl⟩
 .cases h
theorem z_(h:CU c m d=true):d.cls=c/\d.short=m/\d.cls.cps.isEmpty=false:=by unfold CU at h;simp only[Bool.and_eq_true]at h;exact⟨aS h.1.1,aS h.1.2,by simpa using h.2⟩
theorem AR{D:List Df}{x:Str->GF}{c m:Str}{g:GF}(h:mT D x c m=some g):m≠("__init__":Str)/\∃d ∈ D,d.cls=c/\d.short=m/\d.cls.cps.isEmpty=false/\g=x d.name:=by
 unfold mT at h;split at h
 .cases h
 .rename_i n;obtain⟨d,q,rfl⟩:=aq h;obtain⟨a,e,s⟩:=z_ (qz q);exact⟨n,d,qK q,a,e,s,rfl⟩
theorem AS{D:List Df}{x:Str->GF}{c:Str}{g:GF}(h:K7 D x c=some g):∃d ∈ D,d.cls=c/\d.short=("__init__":Str)/\d.cls.cps.isEmpty=false/\g=x d.name:=by unfold K7 at h;obtain⟨d,q,rfl⟩:=aq h;obtain⟨a,e,s⟩:=z_ (qz q);exact⟨d,qK q,a,e,s,rfl⟩
theorem IR{D:List Df}{x:Str}{a:Str->GX}{g:GX}(h:JU D a x=some g):∃d ∈ D,d.name=x/\d.cls.cps.isEmpty=true/\g=a x:=by
 unfold JU at h;split at h
 .rename_i c;cases h;obtain⟨d,hd,e⟩:=nu.mp c;rw[Bool.and_eq_true]at e;exact⟨d,hd,aS e.1,e.2,rfl⟩
 .cases h
theorem yi(h:ExsOk K mg E R)(g:GX):AF K (jN R g):=λd S c x q=>by obtain⟨C,n,_⟩:=h.own c (h.rE c (t6 q).2);exact⟨C,n⟩
theorem w4 {G:Str->Option P}{T:At}{E:Ex}{R:LS}{D:List Df}{Pg:Program}{w:World}{K:FG}{mg:SV}{base:Heap} (Tk:TOk w G T E R D K mg):∀n,(∀d ∈ D,
  ∀f fd,Fun K d.short d.name d.st f fd->FnOk Pg w K mg base qy n f fd d.ps (oZ K (IT G T E R D n d.name))/\FnOk Pg w K mg base (yr Pg w) n f fd d.ps (Fz K (IS G T E R D n d.name))) /\
  (∀x,AF K (IS G T E R D n x)) /\
  ∀c g,(j9 G T E R D n).2.1 c=some g->∃m,n=m+1/\∃C f fd ps,jg K c C/\mg c=some (.ref C)/\Mk K C f/\FnOk Pg w K mg base qy m f fd ps (oZ K g)/\Binds K fd ps []
 |0=>by
  have no:∀x vs H Q E0,¬Fz K (IS G T E R D 0 x) vs H Q E0:=λx vs H Q E0 h=>by obtain⟨F,m,ds,S,c,S',_,_,q,_⟩:=h;cases (show(none:Option (Str×aD))=some (c,S') from q)
  refine⟨λd hd f fd hF=>⟨Ap,λvs H Q E0 h=>absurd h (no _ vs H Q E0),λA outer s H args us vs Q E0 _ _ _ _ h=>absurd h (no _ vs H Q E0)⟩,λx=>λds S c S' q=>?_,λc g h=>?_⟩
  .cases (show(none:Option (Str×aD))=some (c,S') from q)
  .cases (show(none:Option GF)=some g from h)
 |n+1=>by
  have ih:=w4 (Pg:=Pg) (w:=w) (base:=base) Tk n;refine⟨λd hd f fd hF=>?_,λx=>?_,λc g h=>?_⟩
  .have e:IT G T E R D (n+1) d.name=cM d.ps.length d.N.length (sP G T E R D (j9 G T E R D n) d):=by
    show(match D.find? λd'=>decide (d'.name=d.name) with|some d=>cM d.ps.length d.N.length (sP G T E R D (j9 G T E R D n) d)|none=>λ_ _=>none)=_;rw[kF Tk.un hd]
   have ex:IS G T E R D (n+1) d.name=jN R (fnX d.ps.length d.N.length (uH G T E R D (j9 G T E R D n) d)):=by show(match D.find? λd'=>decide (d'.name=d.name) with|some d=>jN R (fnX d.ps.length d.N.length (uH G T E R D (j9 G T E R D n) d))|none=>λ_ _=>none)=_;rw[kF Tk.un hd]
   rw[e,ex];have hsc:=DR (bc.mp Tk.sc d hd);have XO:∀(cdv:Value)(A:Around)(outer:List Env)(s:Shared)(H:Hp)(E':XK),Room n (A.deeper (envOfC d.name (aF d.st) s.heap.objs.size f cdv)) ->
     XOk (FF G T E R D (j9 G T E R D n) d) (mR (yr Pg w) Pg w K mg base d.N d.name (aF d.st) f cdv A outer s H E'):=fun cdv A outer s H E' hr=>{
    hN:=rfl
    nd:=hsc.nd
    ks:=rfl
    kd:=hsc.kind
    calm:=rfl
    hu:=by have:=hr.un;show(A.deeper (envOfC d.name (aF d.st) s.heap.objs.size f cdv)).units+64 < _;lia
    fns:=λx g hg=>by obtain⟨d',hd',hn,hc,rfl⟩:=AQ hg;obtain⟨f',fd',h1⟩:=Tk.fn d' hd';subst hn;exact⟨n,f',fd',d'.ps,(ih.1 d' hd' f' fd' h1.fn).1,hr,h1.gl hc,h1.fn.kp,h1.bd⟩
    blt:=Tk.z
    glb:=Tk.gl
    attrs:=Tk.at'
    meths:=λc m g hg=>by obtain⟨hm,d',hd',rfl,rfl,hc,rfl⟩:=AR hg;obtain⟨f',fd',h1⟩:=Tk.fn d' hd';obtain⟨C,c1,c2,c3,c4,c5⟩:=h1.cl hc;exact⟨C,n,f',fd',d'.ps,c1,c3,c5 hm,(ih.1 d' hd' f' fd' h1.fn).1,hr,h1.bd⟩
    mks:=λc g hg=>by obtain⟨m,rfl,C,f',fd',ps,c1,c2,c3,c4,c5⟩:=ih.2.2 c g hg;exact⟨C,m,f',fd',ps,c1,c2,c3,c4,hr,c5⟩
    exs:=Tk.ex
    ys:=λx gx hg=>by obtain⟨d',hd',hn,hc,rfl⟩:=IR hg;obtain⟨f',fd',h1⟩:=Tk.fn d' hd';subst hn;exact⟨ih.2.1 d'.name,n,f',fd',d'.ps,(ih.1 d' hd' f' fd' h1.fn).2,hr,h1.gl hc,h1.fn.kp,h1.bd⟩ }
   refine⟨E4 (N:=d.N) hF hsc λcdv A outer s H E' hr=>?_,FnOk.imp (E3 (N:=d.N) (b:=uH G T E R D (j9 G T E R D n) d) hF hsc (λr=>r.toSt) λcdv A outer s H E' hr=>?_) λvs H Q E' h=>?_⟩
   .have X:XOk (FF G T E R D (j9 G T E R D n) d) (mR qy Pg w K mg base d.N d.name (aF d.st) f cdv A outer s H E').nox:=(XO cdv A outer s H E' hr).more (λ_ _=>False) [];unfold sP;cases q:u7 (CH (FF G T E R D (j9 G T E R D n) d) 60) (cW d.st) with
    |none=>exact lJ.imp' λD σ H hz=>by obtain⟨F,m,L,S,fl,L',S',r,l,q,k⟩:=hz;cases q
    |some b=>exact kP (λst f q=>u9 X (λ_=>rfl) PassesOwn.never ⟨rfl,rfl,rfl⟩ 60 st f q) q
   .have X:=XO cdv A outer s H E' hr;exact wr (λst f q=>u9 X (λ_=>rfl) PassesOwn.leaving ⟨rfl,rfl,rfl⟩ 60 st f q) (λst=>DG X 60 st) (cW d.st)
   .obtain⟨F,m,ds,S,c,S',rl,r,q,k⟩:=h;exact⟨F,m,ds,S,c,S',rl,r,(t6 q).1,k⟩
  .show AF K (match D.find? λd'=>decide (d'.name=x) with|some d=>jN R (fnX d.ps.length d.N.length (uH G T E R D (j9 G T E R D n) d))|none=>λ_ _=>none);split
   .exact yi Tk.ex _
   .exact λds S c S' q=>nomatch q
  .obtain⟨d,hd,rfl,hs,hc,rfl⟩:=AS (x:=(j9 G T E R D n).1) h;obtain⟨f,fd,h1⟩:=Tk.fn d hd;obtain⟨C,c1,c2,c3,c4,c5⟩:=h1.cl hc;exact⟨n,rfl,C,f,fd,d.ps,c1,c2,c4 hs,(ih.1 d hd f fd h1.fn).1,h1.bd⟩
theorem t4:∀s:List Int,cC K F H (s.map .int) (s.map V.int)
 | []=>rfl
 |n::r=>⟨_,_,rfl,rfl,t4 r⟩
theorem EI{K:FG}{H:Hp}{a:Addr}{n:List Int}{g:GF}{E:XK}(O:yq H)(S:ie K H a (n.map V.int))(h:pureOf g [.ro (n.map .int)]=some (.bl true)):oZ K g [.ref a] H (λv _=>v=.bl true) E:=by
 refine nL ⟨λb=>b=a/\H a≠none,[.ro (n.map .int)],.bl true,λb x=>(by rw[x.1];exact x.2),⟨_,_,rfl,⟨a,_,rfl,?_,t4 n⟩,rfl⟩,h,λv F s _ r=>r⟩;rcases S with S|S
 .rcases O a with z|⟨o,k,z⟩
  .rcases S with S|⟨o,S⟩<;>rw[z]at S<;>cases S
  .rcases S with S|⟨e,S⟩
   .rw [z]at S;cases S
   .exact .inl ⟨⟨rfl,by rw[z];exact λq=>nomatch q⟩,e,S⟩
 .exact .inr (.inr S)
open PySem L2
section
variable(L:Lc)(S:aD)
@[simp] theorem Lx(v:P):vC v L S=some (v,S):=rfl
@[simp] theorem Jw(i:Nat):aa i L S=match L[i]? with|some (some d)=>some (d,S)|_=>none:=rfl
@[simp] theorem ka(f:EE):vE f L S=aG (f L S) (toP 9):=rfl
@[simp] theorem oE(f:EV):eV f L S=aG (f L S) λv h=>some (.p v,h):=rfl
@[simp] theorem u3(g:P->P->Option P)(a b:EV):ac g a b L S=aG (a L S) λx h=>aG (b L h) λy e=>(g x y).map λv=>(v,e):=rfl
@[simp] theorem Kf(g:P->Option P)(a:EV):yI g a L S=aG (a L S) λx h=>(g x).map λv=>(v,h):=rfl
@[simp] theorem IM(a:EV):bV a L S=aG (a L S) λx h=>match x with | .bl b=>some (b,h)|_=>none:=rfl
@[simp] theorem JH(a b:EB):g8 a b L S=aG (a L S) λc h=>if c=true then b L h else some (false,h):=rfl
@[simp] theorem Lk(a b:EB):uO a b L S=aG (a L S) λc h=>if c=true then some (true,h) else b L h:=rfl
@[simp] theorem JG(a:EB):oS a L S=aG (a L S) λc h=>some (!c,h):=rfl
@[simp] theorem JF:ir L S=some (true,S):=rfl
@[simp] theorem Ly(a:EB):vB a L S=aG (a L S) λc h=>some (.bl c,h):=rfl
@[simp] theorem Kh(c:EB)(a b:EV):CC c a b L S=aG (c L S) λk h=>if k=true then a L h else b L h:=rfl
@[simp] theorem yH:aN L S=some ([],S):=rfl
@[simp] theorem xn(a:EV)(r:gC):aL a r L S=aG (a L S) λx h=>aG (r L h) λs e=>some (x::s,e):=rfl
@[simp] theorem A_(a:gC):aw a L S=aG (a L S) λx h=>if few x=true then some (.tup x,h) else none:=rfl
@[simp] theorem Ja(a:gC):aP a L S=aG (a L S) λx h=>if few x=true then some (.lst x,h) else none:=rfl
@[simp] theorem Jx(a:gC):cD a L S=aG (a L S) λx h=>if few x=true then some (.ref h.length,h++[.lst (x.map .p)]) else none:=rfl
@[simp] theorem Gz(g:List P->Option P)(a:gC):ah g a L S=aG (a L S) λx h=>(g x).map λv=>(v,h):=rfl
@[simp] theorem Bb(r:EE):eH r L S=aG (r L S) λd h=>match cB d h with|some n=>some (.int (n:Int),h)|none=>none:=by
 unfold eH;cases r L S with
 |none=>rfl
 |some z=>obtain⟨d,h⟩:=z;rw[av,av];cases cB d h<;>rfl
@[simp] theorem Gw(r:EE):pL r L S=aG (r L S) λd h=>match xA d h with|some s=>(jS s).map λv=>(v,h)|none=>none:=rfl
@[simp] theorem Kg(a:EV):Fw a L S=aG (a L S) λv h=>match v with | .int s=>if decide (s.natAbs < 1000000)=true then some (.lst (intsFrom 0 s.toNat),h) else none|_=>none:=rfl
@[simp] theorem A'(a:EV)(lo h:EO):jB a lo h L S=aG (a L S) λx e=>aG (lo L e) λi s=>aG (h L s) λj n=>(AC x i j).map λv=>(v,n):=rfl
@[simp] theorem Gy(a b c:EV):wk a b c L S=aG (a L S) λd h=>aG (b L h) λy x=>aG (c L x) λz e=>match d with
 | .dct s v=>match cj y with
  |some k=>some ((bG k s v).getD z,e)
  |none=>none
 |_=>none:=rfl
@[simp] theorem Ky:ff L S=some (.nx,L,S):=rfl
@[simp] theorem m9(f g:ES):af f g L S=match f L S with|some (.nx,s,k)=>g s k|r=>r:=rfl
@[simp] theorem dQ(i:Nat)(f:EE):am i f L S=aG (f L S) λd h=>some (.nx,L.set i (some d),h):=rfl
@[simp] theorem ri(f:EE):aI f L S=aG (f L S) λd h=>some (.rt d,L,h):=rfl
@[simp] theorem kT(f:EE):bN f L S=aG (f L S) λ_ h=>some (.nx,L,h):=rfl
@[simp] theorem iW(c:EB)(a b:ES):dW c a b L S=aG (c L S) λk h=>if k=true then a L h else b L h:=rfl
@[simp] theorem bX(i:gC)(g:jf)(b:ES):cb i g b L S=aG (i L S) λx h=>aR g b x L h:=rfl
@[simp] theorem Js(i:Nat)(v:P):ak i v L=some (L.set i (some (.p v))):=rfl
@[simp] theorem i0(a:EV):iH a L S=aG (a L S) λv h=>match v with | .lst s=>some (s,h) | .ro s=>some (s,h)|_=>none:=rfl
@[simp] theorem jR(r:EE)(k:EV):mK r k L S=aG (r L S) λd x=>aG (k L x) λy h=>match d with
 | .p v=>(ar v y).map λz=>(.p z,h)
 | .ref i=>match h[i]? with
  | some (.lst s)=>(match y with
   | .int j=>(L2.atI s j).map λz=>(z,h)
   |_=>none)
  |some (.fz v)=>(ar v y).map λz=>(.p z,h)
  | some (.dct a e)=>(match cj y with
   |some k=>(bG k a e).map λz=>(z,h)
   |none=>none)
  |_=>none:=rfl
@[simp] theorem kH(r a:EE):bj r a L S=aG (r L S) λd h=>match dD d h with
 |none=>none
 |some _=>aG (a L h) λx e=>match dD d e with
  |some (i,s)=>if few s=true then some (.p .non,e.set i (.lst (s++[x]))) else none
  |none=>none:=rfl
end
@[simp] theorem oB(x:List p):(few x=true)=(x.length≤1000000):=by unfold few;simp
@[simp] theorem la(n:Nat):(iC n=true)=(n≤1000000):=by unfold iC;simp
theorem aY{p:Type}{s:List p}{i:Int}{x:p}(a:0≤i)(h:s[i.toNat]? = some x):L2.atI s i=some x:=by have l:=(List.getElem?_eq_some_iff.mp h).1;unfold L2.atI L2.vw;rw[if_pos a,if_pos (by lia)];exact h
@[simp] theorem IP(x:p)(s:List p):L2.atI (x::s) 0=some x:=aY (by lia) rfl
@[simp] theorem JJ(x y:p)(s:List p):L2.atI (x::y::s) 1=some y:=aY (by lia) rfl
@[simp] theorem JI(x y z:p)(s:List p):L2.atI (x::y::z::s) 2=some z:=aY (by lia) rfl
@[simp] theorem FS(x y z w:p)(s:List p):L2.atI (x::y::z::w::s) 3=some w:=aY (by lia) rfl
@[simp] theorem JA(x:List P)(i:Int):ar (.tup x) (.int i)=L2.atI x i:=rfl
@[simp] theorem JB(x:List P)(i:Int):ar (.lst x) (.int i)=L2.atI x i:=rfl
@[simp] theorem Lf(x:List P)(i:Int):ar (.ro x) (.int i)=L2.atI x i:=rfl
@[simp] theorem JC(k:List bz)(v:List P)(x:Str):ar (.dct k v) (.str x)=bG (.inr x) k v:=rfl
@[simp] theorem IF(i j:Int):vT (.int i) (.int j)=some (.bl (decide (i=j))):=rfl
@[simp] theorem IE(i j:Str):vT (.str i) (.str j)=some (.bl (decide (i=j))):=rfl
@[simp] theorem JD(i j:Bool):vT (.bl i) (.bl j)=some (.bl (decide (i=j))):=rfl
@[simp] theorem Jz(i j:Int):Fc (.int i) (.int j)=some (.bl (!decide (i=j))):=rfl
@[simp] theorem Jy(i j:Str):Fc (.str i) (.str j)=some (.bl (!decide (i=j))):=rfl
@[simp] theorem Le(i j:Bool):Fc (.bl i) (.bl j)=some (.bl (!decide (i=j))):=rfl
@[simp] theorem IG(i j:Int):sK (.int i) (.int j)=some (.int (i+j)):=rfl
@[simp] theorem IB(i j:Int):vR (.int i) (.int j)=if fJ i j=true then some (.int (i * j)) else none:=rfl
@[simp] theorem IA(i:Int):oO (.int i)=some (.int (-i)):=rfl
theorem aj(e n:Nat)(b:ES)(ps:List P):pureOf (cM e n b) ps=if ps.length=e then match b (ps.map (λp=>some (.p p))++List.replicate (n-ps.length) none) [] with
 |some (.rt d,_,S)=>(toP 9 d S).map (·.1)
 |some (.nx,_,_)=>some .non
 |_=>none else none:=by
 unfold pureOf cM;rw[a7,nq];by_cases h:ps.length=e
 .rw [if_pos h,if_pos h];show (match (match b (ps.map (fun p=>some (D.p p))++List.replicate (n-ps.length) none) [] with
   |some (.rt d,_,a)=>some (d,a)
   |some (.nx,_,a)=>some (.p .non,a)
   |_=>none:Option (D×aD)) with
   |some (d,S)=>(toP 9 d S).map (λ(x:P×aD)=>x.1)
   |none=>none)=_
  cases b (ps.map (λp=>some (D.p p))++List.replicate (n-ps.length) none) [] with
  |none=>rfl
  |some z=>obtain⟨f,L,S⟩:=z;cases f<;>simp
 .rw [if_neg h,if_neg h]
variable{v:P}
theorem bR(h:g v L=some s)(x:b s S=some (.nx,L2,k)):aR g b (v::r) L S=aR g b r L2 k:=by simp[aR,h,x]
theorem uc(h:g v L=some s)(x:b s S=some (.rt d,L2,k)):aR g b (v::r) L S=some (.rt d,L2,k):=by simp[aR,h,x]
section
variable(L:Lc)(S:aD)
@[simp] theorem Ba(g:D->D->aD->Option P)(a b:EE):aC g a b L S=aG (a L S) λx e=>aG (b L e) λy h=>(g x y h).map λv=>(v,h):=rfl
@[simp] theorem IN(a:EE):bT a L S=aG (a L S) λd h=>(yK d h).map λb=>(b,h):=rfl
@[simp] theorem Fx(g e:P->P->Option P)(a b c:EV):lF g e a b c L S=aG (a L S) λx s=>aG (b L s) λy h=>match g x y with
 |some (.bl true)=>aG (c L h) λz n=>(e y z).map λv=>(v,n)
 |some (.bl false)=>some (.bl false,h)
 |_=>none:=rfl
@[simp] theorem vA(a:EV):o8 a L S=aG (a L S) λv h=>match v with | .lst s=>some (a_ 0 s,h) | .ro s=>some (a_ 0 s,h)|_=>none:=rfl
@[simp] theorem Gx(a:Str->Option Bool)(f:EE):j' a f L S=aG (f L S) λd h=>(zZ a d h).map λb=>(.bl b,h):=rfl
@[simp] theorem J6:Cz L S=none:=rfl
@[simp] theorem A4(h:ES)(f g:EX):yE h f g L S=match h L S with|some (.nx,s,k)=>g s k|some _=>none|none=>f L S:=rfl
@[simp] theorem Ft(c:Str):qX c L S=some (c,L,S):=rfl
@[simp] theorem Fv(g:GX)(a:l8):jA g a L S=aG (a L S) λd h=>(g d h).map λz=>(z.1,L,z.2):=rfl
@[simp] theorem Ir(a:EV):wZ a L S=aG (a L S) λv h=>(C8 v).map λx=>(.ref h.length,h++[.lst (x.map .p)]):=rfl
@[simp] theorem wS(a:EV):io a L S=aG (a L S) λx h=>match x with | .int n=>if (decide (n.natAbs < 1000000))=true then some (intsFrom 0 n.toNat,h) else none|_=>none:=by
 unfold io;cases a L S with
 |none=>rfl
 |some z=>obtain⟨x,h⟩:=z;cases x<;>first|rfl|simp
@[simp] theorem vL(r:EE)(a:EV):d_ r a L S=aG (r L S) λd h=>match dD d h with
 |none=>none
 |some _=>aG (a L h) λx e=>match dD d e,x with
  |some (i,s),.lst y=>if iC (s.length+y.length)=true then some (.p .non,e.set i (.lst (s++y.map .p))) else none
  |_,_=>none:=rfl
@[simp] theorem Iv:aV L S=some ([],S):=rfl
@[simp] theorem FK(a:EE)(r:l8):ae a r L S=aG (a L S) λx h=>aG (r L h) λs e=>some (x::s,e):=rfl
@[simp] theorem x9(g:GF)(a:l8):gq g a L S=aG (a L S) λd h=>g d h:=rfl
@[simp] theorem pM(g:GF)(a:l8):cq g a L S=aG (a L S) λs h=>aG (g s h) λd x=>aG (toP 9 d x) λv e=>some (v,trunc h.length e):=rfl
@[simp] theorem Bc(T:String)(f:EE):u4 T f L S=aG (f L S) λd h=>(xT T d h).map λb=>(.bl b,h):=rfl
@[simp] theorem Jh(g:jf)(f:EV):tw g f L S=aG (f L S) λv h=>match g v L with|some s=>some (.nx,s,h)|none=>none:=rfl
@[simp] theorem Ij(g:List jf)(v:List P):aK g (.tup v) L=ow g v L:=rfl
@[simp] theorem Ih:ow [] [] L=some L:=rfl
@[simp] theorem FE(g:jf)(s:List jf)(v:P)(h:List P):ow (g::s) (v::h) L=match g v L with|some k=>ow s h k|none=>none:=rfl
@[simp] theorem K5(T:String)(v:P):xT T (.p v) S=some (gU T v):=rfl
@[simp] theorem Ki(v:P):yK (.p v) S=u6 v:=rfl
@[simp] theorem Jc(b:Bool):u6 (.bl b)=some b:=rfl
@[simp] theorem GA(i:Int):u6 (.int i)=some (i != 0):=rfl
@[simp] theorem LO(x y:P):eC (.p x) (.p y) S=(AV x y).map .bl:=rfl
@[simp] theorem LN(x y:P):pa (.p x) (.p y) S=(xK x y).map .bl:=rfl
end
@[simp] theorem Jv(i j:Int):AV (.int i) (.int j)=some (decide (i=j)):=rfl
@[simp] theorem Ju(i j:Str):AV (.str i) (.str j)=some (decide (i=j)):=rfl
@[simp] theorem Lb(i j:Bool):AV (.bl i) (.bl j)=some (decide (i=j)):=rfl
@[simp] theorem Jp(i j:Int):xK (.int i) (.int j)=some (!decide (i=j)):=rfl
@[simp] theorem Jo(i j:Str):xK (.str i) (.str j)=some (!decide (i=j)):=rfl
@[simp] theorem KW(i j:Bool):xK (.bl i) (.bl j)=some (!decide (i=j)):=rfl
@[simp] theorem FR(i j:Int):au (.int i) (.int j)=some (.int (i+j)):=rfl
@[simp] theorem FP(x y:Str):au (.str x) (.str y)=sK (.str x) (.str y):=rfl
@[simp] theorem FQ(x y:List P):au (.lst x) (.lst y)=if iC (x.length+y.length)=true then some (.lst (x++y)) else none:=rfl
@[simp] theorem FN(i j:Int):fm (.int i) (.int j)=if fJ i j=true then some (.int (i * j)) else none:=rfl
@[simp] theorem FM(x:List P)(n:Int):fm (.lst x) (.int n)=if (iC (x.length * n.toNat) && decide (n.natAbs < 1000000))=true then some (.lst (List.replicate n.toNat x).flatten) else none:=rfl
theorem tL(h:bC 20 v=true):xK v v=some false:=by
 unfold xK;have e:PyData.eqv (pd v) (pd v)=true:=PySem.SeqAt.eqv_refl _ (hG 20 v h).1;cases q:Fc v v with
 |none=>simp[h,e]
 |some z=>
  cases v with
  |int i=>cases q;simp
  |str i=>cases q;simp
  |bl i=>cases q;simp
  |non=>cases q
  |tup _=>cases q
  |lst _=>cases q
  |ro _=>cases q
  |dct _ _=>cases h
theorem wW(h:bC 20 (.lst s)=true):AV (.lst s) (.lst [])=some s.isEmpty:=by
 unfold AV;have e:bC 20 (.lst [])=true:=rfl;show(if (bC 20 (.lst s) && bC 20 (.lst []))=true then some (PyData.eqv (pd (.lst s)) (pd (.lst []))) else none)=_;rw[h,e];cases s with
 |nil=>rfl
 |cons x r=>simp[pd,nV,PyData.eqv,PyData.eqvAll]
theorem j1(h:bC 20 (.lst s)=true):xK (.lst s) (.lst [])=some (!s.isEmpty):=by
 unfold xK;have e:bC 20 (.lst [])=true:=rfl;show(if (bC 20 (.lst s) && bC 20 (.lst []))=true then some (!PyData.eqv (pd (.lst s)) (pd (.lst []))) else none)=_;rw[h,e];cases s with
 |nil=>rfl
 |cons x r=>simp[pd,nV,PyData.eqv,PyData.eqvAll]
section
variable(L:Lc)(S:aD)
@[simp] theorem Cf(A:Str->Str->Bool)(o:EE)(f:Str):d6 A o f L S=aG (o L S) λd h=>match d with
 | .ref i=>match h[i]? with
  |some (.ins c k s)=>if A c f=true then (gR f k s).map λz=>(z,h) else none
  |_=>none
 |_=>none:=rfl
@[simp] theorem Ji(A:Str->Str->Bool)(o:EE)(f:Str)(v:EE):kS A o f v L S=aG (v L S) λy x=>aG (o L x) λd h=>match d with
 | .ref i=>match h[i]? with
  |some (.ins c k s)=>if (A c f && decide (k.length < 900))=true then some (.nx,L,h.set i (.ins c (putK f k) (nS f y k s))) else none
  |_=>none
 |_=>none:=rfl
@[simp] theorem iA(M:Str->Str->Option GF)(o:EE)(m:Str)(O:l8):dS M o m O L S=aG (o L S) λd h=>match d with
 | .ref i=>match h[i]? with
  |some (.ins c k _)=>match M c m with
   |some g=>if k.contains m=true then none else aG (O L h) λv x=>g (.ref i::v) x
   |none=>none
  |_=>none
 |_=>none:=rfl
@[simp] theorem Iq(g:GF)(c:Str)(O:l8):oG g c O L S=aG (O L S) λv h=>match g (.ref h.length::v) (h++[.ins c [] []]) with
 |some (.p .non,x)=>some (.ref h.length,x)
 |_=>none:=rfl
end
section
variable(L:Lc)(S:aD)
@[simp] theorem Jb(a f:EV):oW a f L S=aG (a L S) λv x=>match v with
 | .lst p=>aG (f L x) λy h=>(kE p y).map λ(i:Nat)=>(.int (i:Int),h)
 | .tup p=>aG (f L x) λy h=>(kE p y).map λ(i:Nat)=>(.int (i:Int),h)
 |_=>none:=rfl
@[simp] theorem FJ:sf L S=some (.ref S.length,S++[.dtt [] []]):=rfl
@[simp] theorem wY(o:EE)(k:gC):vK o k L S=aG (o L S) λd x=>aG (k L x) λps h=>match iX d h,cw ps with
 |some (_,s,v),some e=>if few ps=true then (bQ e s v).map λz=>(z,h) else none
 |_,_=>none:=rfl
@[simp] theorem ue(o:EE)(k:gC):uf o k L S=aG (o L S) λd h=>match iX d h with
 |none=>none
 |some _=>aG (k L h) λp x=>match iX d x,cw p with
  |some (_,s,v),some e=>if few p=true then some ((bQ e s v).getD (.p .non),x) else none
  |_,_=>none:=rfl
@[simp] theorem G9(o:EE)(k:gC)(v:EV):ww o k v L S=aG (v L S) λy a=>aG (o L a) λd n=>aG (k L n) λps h=>match iX d h,cw ps with
 |some (i,s,x),some e=>if (s.Nodup/\few s=true/\few ps=true) then some (.nx,L,h.set i (.dtt (cU e (.p y) s x).1 (cU e (.p y) s x).2)) else none
 |_,_=>none:=rfl
@[simp] theorem oF(o:EE)(k:EV)(d:EE):nj o k d L S=aG (o L S) λx a=>match jE x a with
 |none=>none
 |some _=>aG (k L a) λz n=>aG (d L n) λy h=>match jE x h,cj z with
  |some (i,s,v),some e=>if (s.Nodup/\few s=true) then match bQ e s v with
    |some w=>some (w,h)
    |none=>some (y,h.set i (.dct (cU e y s v).1 (cU e y s v).2))
   else none
  |_,_=>none:=rfl
@[simp] theorem FI(f b:EV):se f b L S=aG (f L S) λx a=>aG (b L a) λy h=>match x,y with
 | .lst s,.tup v=>match cw s with
  |some k=>if (k.Nodup/\few s=true/\k.length≤v.length) then some (.ref h.length,h++[.dct k ((v.take k.length).map .p)]) else none
  |none=>none
 |_,_=>none:=rfl
end
section
variable{L:Lc}{S:aD}
@[simp high] theorem MZ(d:D) :aa 0 (some d::L) S=some (d,S):=rfl
@[simp high] theorem MY(d:D)(a:Option D):aa 1 (a::some d::L) S=some (d,S):=rfl
@[simp high] theorem MX(d:D)(a h:Option D):aa 2 (a::h::some d::L) S=some (d,S):=rfl
@[simp high] theorem MW(d:D)(a h x:Option D):aa 3 (a::h::x::some d::L) S=some (d,S):=rfl
@[simp high] theorem MV(d:D)(a h x e:Option D):aa 4 (a::h::x::e::some d::L) S=some (d,S):=rfl
@[simp high] theorem MU(d:D)(a h x e s:Option D):aa 5 (a::h::x::e::s::some d::L) S=some (d,S):=rfl
@[simp high] theorem MT(d:D)(a h x e s n:Option D):aa 6 (a::h::x::e::s::n::some d::L) S=some (d,S):=rfl
@[simp high] theorem MS(d:D)(a h x e s n k:Option D):aa 7 (a::h::x::e::s::n::k::some d::L) S=some (d,S):=rfl
@[simp high] theorem MR(d:D)(a h x e s n k f:Option D):aa 8 (a::h::x::e::s::n::k::f::some d::L) S=some (d,S):=rfl
@[simp high] theorem MQ(d:D)(a h x e s n k f b:Option D):aa 9 (a::h::x::e::s::n::k::f::b::some d::L) S=some (d,S):=rfl
@[simp high] theorem L4(d:D)(a h x e s n k f b c:Option D):aa 10 (a::h::x::e::s::n::k::f::b::c::some d::L) S=some (d,S):=rfl
@[simp high] theorem L3(d:D)(h x e s n k f b c m a:Option D):aa 11 (h::x::e::s::n::k::f::b::c::m::a::some d::L) S=some (d,S):=rfl
@[simp high] theorem L0(d:D)(x e s n k f b c m r a h:Option D):aa 12 (x::e::s::n::k::f::b::c::m::r::a::h::some d::L) S=some (d,S):=rfl
@[simp high] theorem LZ(d:D)(e s n k f b c m r t a h x:Option D):aa 13 (e::s::n::k::f::b::c::m::r::t::a::h::x::some d::L) S=some (d,S):=rfl
@[simp high] theorem LY(d:D)(s n k f b c m r t p a h x e:Option D):aa 14 (s::n::k::f::b::c::m::r::t::p::a::h::x::e::some d::L) S=some (d,S):=rfl
@[simp high] theorem LX(d:D)(n k f b c m r t p q a h x e s:Option D):aa 15 (n::k::f::b::c::m::r::t::p::q::a::h::x::e::s::some d::L) S=some (d,S):=rfl
@[simp high] theorem LW(d:D)(k f b c m r t p q v a h x e s n:Option D):aa 16 (k::f::b::c::m::r::t::p::q::v::a::h::x::e::s::n::some d::L) S=some (d,S):=rfl
@[simp high] theorem LU(d:D)(f b c m r t p q v w a h x e s n k:Option D):aa 17 (f::b::c::m::r::t::p::q::v::w::a::h::x::e::s::n::k::some d::L) S=some (d,S):=rfl
@[simp ↓ high] theorem MM(x y:s):(if few ([]:List p)=true then x else y)=x:=rfl
@[simp ↓ high] theorem ML(a:p)(x y:s):(if few ([a]:List p)=true then x else y)=x:=rfl
@[simp ↓ high] theorem MK(a h:p)(x y:s):(if few ([a,h]:List p)=true then x else y)=x:=rfl
@[simp ↓ high] theorem MJ(a h e:p)(x y:s):(if few ([a,h,e]:List p)=true then x else y)=x:=rfl
@[simp ↓ high] theorem MH(a h e s:p)(x y:k):(if few ([a,h,e,s]:List p)=true then x else y)=x:=rfl
@[simp ↓ high] theorem MG(a h e s n:p)(x y:k):(if few ([a,h,e,s,n]:List p)=true then x else y)=x:=rfl
@[simp ↓ high] theorem MF(a h e s n k:p)(x y:b):(if few ([a,h,e,s,n,k]:List p)=true then x else y)=x:=rfl
@[simp ↓ high] theorem ME(a h e s n k f:p)(x y:b):(if few ([a,h,e,s,n,k,f]:List p)=true then x else y)=x:=rfl
@[simp ↓ high] theorem MD(a h e s n k f b:p)(x y:c):(if few ([a,h,e,s,n,k,f,b]:List p)=true then x else y)=x:=rfl
@[simp ↓ high] theorem MC(a h e s n k f b c:p)(x y:r):(if few ([a,h,e,s,n,k,f,b,c]:List p)=true then x else y)=x:=rfl
@[simp ↓ high] theorem LQ(a h e s n k f b c m:p)(x y:r):(if few ([a,h,e,s,n,k,f,b,c,m]:List p)=true then x else y)=x:=rfl
@[simp ↓ high] theorem LP(h e s n k f b c m r a:p)(x y:q):(if few ([h,e,s,n,k,f,b,c,m,r,a]:List p)=true then x else y)=x:=rfl
@[simp high] theorem M6(v:P)(S:aD):toP 9 (.p v) S=some (v,S):=rfl
@[simp ↓ high] theorem L7(x:Option (p×aD))(f:p->aD->Option s):aG x f=match x with|some (a,S)=>f a S|none=>none:=rfl
@[simp ↓ high] theorem Mx(x y:s):(if true=true then x else y)=x:=rfl
@[simp ↓ high] theorem Mz(x y:s):(if false=true then x else y)=y:=rfl
end
end Ev
namespace My
variable{n:Nat}
theorem MP(h:1≤n):∃m,n=m+1:=⟨n-1,by lia⟩
theorem gp{n:Nat}(h:2≤n):∃m,n=m+2:=⟨n-2,by lia⟩
theorem MO(h:4≤n):∃m,n=m+4:=⟨n-4,by lia⟩
open PySem L2 Ev
noncomputable abbrev qp(x:P):Option D:=some (.p x)
noncomputable abbrev qi(x:Int):Option D:=some (.p (.int x))
noncomputable abbrev qs(x:Str):Option D:=some (.p (.str x))
noncomputable abbrev ql(x:List P):Option D:=some (.p (.lst x))
noncomputable abbrev qt(x:List P):Option D:=some (.p (.tup x))
noncomputable abbrev qr(x:Nat):Option D:=some (.ref x)
abbrev vv(k:Nat):EV:=vE (aa k)
abbrev vi(i:Int):EV:=vC (.int i)
abbrev vt(x:Str):EV:=vC (.str x)
abbrev v1(a:EV):gC:=aL a aN
abbrev v2(a b:EV):gC:=aL a (aL b aN)
abbrev v3(a b c:EV):gC:=aL a (aL b (aL c aN))
abbrev v4(a b c d:EV):gC:=aL a (aL b (aL c (aL d aN)))
abbrev v5(a b c d e:EV):gC:=aL a (aL b (aL c (aL d (aL e aN))))
abbrev v6(a b c d e f:EV):gC:=aL a (aL b (aL c (aL d (aL e (aL f aN)))))
abbrev v7(a b c d e f g:EV):gC:=aL a (aL b (aL c (aL d (aL e (aL f (aL g aN))))))
abbrev v8(a b c d e f g h:EV):gC:=aL a (aL b (aL c (aL d (aL e (aL f (aL g (aL h aN)))))))
noncomputable def eE(i:Nat):Stmt:=PySem.Challenge.pw_roadsall_k22_deeds_that_arent.main.body.getD i (.Pass ⟨0,0,0,0⟩)
noncomputable def Gv(x:Str):Option P:=if x=("HIGHEST_LETTER":Str) then some (.int 999) else none
def mP:Df:=⟨"_law_cell_at","_law_cell_at","",(eE 36),["_law_script","_law_k"],["_law_script","_law_k"],[],[],["flaw_ends","Board.family_of","Board.hands_beside","takeable","targets_of","posted","sendings","step_ends","hand_ends","ends_on","Board.__init__","do_on"]⟩
def uq:Df:=⟨"_law_mix","_law_mix","",(eE 37),["_law_cell","_law_k","_law_turn","_law_number"],["_law_cell","_law_k"],[],[],["flaw_ends","Board.family_of","Board.hands_beside","takeable","targets_of","posted","sendings","step_ends","hand_ends","ends_on","Board.__init__","do_on"]⟩
def pu:Df:=⟨"_law_roads","_law_roads","",(eE 42),["_law_script","_law_families_here","_law_room","_law_roads_here","_law_k","_law_one","_law_j","_law_other","_law_drawn","_law_kind"],["_law_script","_law_families_here","_law_room"],["_law_roads_here"],[],["flaw_ends","Board.family_of","Board.hands_beside","takeable","targets_of","posted","sendings","step_ends","hand_ends","ends_on","Board.__init__","do_on"]⟩
def sE:Df:=⟨"_law_name","_law_name","",(eE 38),["_law_script","_law_k","_law_drawn"],["_law_script","_law_k"],[],[],["flaw_ends","Board.family_of","Board.hands_beside","takeable","targets_of","posted","sendings","step_ends","hand_ends","ends_on","Board.__init__","do_on"]⟩
def pB:Df:=⟨"_law_cells","_law_cells","",(eE 39),["_law_script","_law_family_here","_law_most","_law_cells_here","_law_k","_law_drawn","_law_low","_law_high"],["_law_script","_law_family_here","_law_most"],["_law_cells_here"],[],["flaw_ends","Board.family_of","Board.hands_beside","takeable","targets_of","posted","sendings","step_ends","hand_ends","ends_on","Board.__init__","do_on"]⟩
def uo:Df:=⟨"_law_sum","_law_sum","",(eE 40),["_law_drawn","_law_names","_law_name_here"],["_law_drawn","_law_names"],[],[],["flaw_ends","Board.family_of","Board.hands_beside","takeable","targets_of","posted","sendings","step_ends","hand_ends","ends_on","Board.__init__","do_on"]⟩
def pq:Df:=⟨"_law_sends","_law_sends","",(eE 43),["_law_drawn","_law_family_here","_law_names","_law_whos","_law_roads_here","_law_most","_law_goals","_law_sends_here","_law_k","_law_some","_law_tree","_law_mark"],["_law_drawn","_law_family_here","_law_names","_law_whos","_law_roads_here","_law_most"],["_law_sends_here"],[],["flaw_ends","Board.family_of","Board.hands_beside","takeable","targets_of","posted","sendings","step_ends","hand_ends","ends_on","Board.__init__","do_on"]⟩
def k8:Df:=⟨"_law_condition","_law_condition","",(eE 41),["_law_drawn","_law_names","_law_word","_law_plain"],["_law_drawn","_law_names"],[],[],["flaw_ends","Board.family_of","Board.hands_beside","takeable","targets_of","posted","sendings","step_ends","hand_ends","ends_on","Board.__init__","do_on"]⟩
def sC:Df:=⟨"_law_step","_law_step","",(eE 44),["_law_drawn","_law_family_here","_law_rooms","_law_cells_here","_law_whos","_law_roads_here","_law_names","_law_senders","_law_take","_law_free","_law_more","_law_into","_law_who","_law_changes","_law_k","_law_name_here","_law_sends_here","_law_when"],["_law_drawn","_law_family_here","_law_rooms","_law_cells_here","_law_whos","_law_roads_here"],["_law_changes"],[],["flaw_ends","Board.family_of","Board.hands_beside","takeable","targets_of","posted","sendings","step_ends","hand_ends","ends_on","Board.__init__","do_on"]⟩
def oK:Df:=⟨"_law_family","_law_family","",(eE 45),["_law_script","_law_k","_law_name_here","_law_crew_here","_law_wide","_law_roads_here","_law_cells_here","_law_drawn","_law_rooms","_law_whos","_law_steps","_law_j","_law_first"],["_law_script","_law_k","_law_name_here","_law_crew_here","_law_wide","_law_roads_here"],["_law_steps"],[],["flaw_ends","Board.family_of","Board.hands_beside","takeable","targets_of","posted","sendings","step_ends","hand_ends","ends_on","Board.__init__","do_on"]⟩
def sD:Df:=⟨"_law_plan","_law_plan","",(eE 46),["_law_script","_law_most","_law_total","_law_wide","_law_many","_law_names","_law_roads_here","_law_families_here","_law_k","_law_name_here","_law_crew_here","_law_wishes","_law_drawn","_law_family_here"],["_law_script","_law_most"],["_law_families_here","_law_wishes"],[],["flaw_ends","Board.family_of","Board.hands_beside","takeable","targets_of","posted","sendings","step_ends","hand_ends","ends_on","Board.__init__","do_on"]⟩
def lV:Df:=⟨"_law_families","_law_families","",(eE 47),["_law_plan_here","_law_found","_law_family_here"],["_law_plan_here"],[],[],["flaw_ends","Board.family_of","Board.hands_beside","takeable","targets_of","posted","sendings","step_ends","hand_ends","ends_on","Board.__init__","do_on"]⟩
def sF:Df:=⟨"_law_crew","_law_crew","",(eE 48),["_law_plan_here","_law_name_here"],["_law_plan_here","_law_name_here"],[],[],["flaw_ends","Board.family_of","Board.hands_beside","takeable","targets_of","posted","sendings","step_ends","hand_ends","ends_on","Board.__init__","do_on"]⟩
def pA:Df:=⟨"_law_pairs","_law_pairs","",(eE 49),["_law_plan_here","_law_found","_law_road","_law_one","_law_other"],["_law_plan_here"],["_law_found"],[],["flaw_ends","Board.family_of","Board.hands_beside","takeable","targets_of","posted","sendings","step_ends","hand_ends","ends_on","Board.__init__","do_on"]⟩
def lU:Df:=⟨"_law_standing","_law_standing","",(eE 50),["_law_script","_law_plan_here","_law_hands","_law_families_here","_law_hand","_law_family_here","_law_drawn","_law_cells_here","_law_k","_law_cell","_law_whos","_law_roads_here","_law_place","_law_pair","_law_letters","_law_number"],["_law_script","_law_plan_here"],["_law_cells_here","_law_hands","_law_letters","_law_roads_here","_law_whos"],[],["flaw_ends","Board.family_of","Board.hands_beside","takeable","targets_of","posted","sendings","step_ends","hand_ends","ends_on","Board.__init__","do_on"]⟩
def sH:Df:=⟨"has_flaw","has_flaw","",(eE 31),["road","word","letters"],["road","word","letters"],[],[],["flaw_ends","Board.family_of","Board.hands_beside","takeable","targets_of","posted","sendings","step_ends","hand_ends","ends_on","Board.__init__","do_on"]⟩
def lT:Df:=⟨"unlike_spots","unlike_spots","",(eE 23),["kind","letters","spots"],["kind","letters"],[],[],["flaw_ends","Board.family_of","Board.hands_beside","takeable","targets_of","posted","sendings","step_ends","hand_ends","ends_on","Board.__init__","do_on"]⟩
def sv:Df:=⟨"replaced","replaced","",(eE 34),["row","place","thing"],["row","place","thing"],[],[],["flaw_ends","Board.family_of","Board.hands_beside","takeable","targets_of","posted","sendings","step_ends","hand_ends","ends_on","Board.__init__","do_on"]⟩
def um:Df:=⟨"without","without","",(eE 33),["row","place"],["row","place"],[],[],["flaw_ends","Board.family_of","Board.hands_beside","takeable","targets_of","posted","sendings","step_ends","hand_ends","ends_on","Board.__init__","do_on"]⟩
def vQ:Df:=⟨"flawed","flawed","",(eE 32),["word","letters","spot"],["word","letters","spot"],[],[],["flaw_ends","Board.family_of","Board.hands_beside","takeable","targets_of","posted","sendings","step_ends","hand_ends","ends_on","Board.__init__","do_on"]⟩
def pD:Df:=⟨"flaw_ends","flaw_ends","",(eE 30),["board","standing","word","ends","place","pair","road","one","other","letters","spot","roads"],["board","standing","word"],["board","ends"],[],["flaw_ends","Board.family_of","Board.hands_beside","takeable","targets_of","posted","sendings","step_ends","hand_ends","ends_on","Board.__init__","do_on"]⟩
def j7:Df:=⟨"Board.family_of","family_of","Board",(L2.cA (eE 13) 1),["self","hand"],["self","hand"],["self"],[],["flaw_ends","Board.family_of","Board.hands_beside","takeable","targets_of","posted","sendings","step_ends","hand_ends","ends_on","Board.__init__","do_on"]⟩
def pk:Df:=⟨"values_of","values_of","",(eE 21),["family","cells"],["family","cells"],[],[],["flaw_ends","Board.family_of","Board.hands_beside","takeable","targets_of","posted","sendings","step_ends","hand_ends","ends_on","Board.__init__","do_on"]⟩
def sI:Df:=⟨"compared","compared","",(eE 10),["word","one","other"],["word","one","other"],[],[],["flaw_ends","Board.family_of","Board.hands_beside","takeable","targets_of","posted","sendings","step_ends","hand_ends","ends_on","Board.__init__","do_on"]⟩
def sr:Df:=⟨"value_of","value_of","",(eE 8),["tree","values","kind","one","other"],["tree","values"],[],[],["flaw_ends","Board.family_of","Board.hands_beside","takeable","targets_of","posted","sendings","step_ends","hand_ends","ends_on","Board.__init__","do_on"]⟩
def yc:Df:=⟨"holds","holds","",(eE 9),["condition","values","kind"],["condition","values"],[],[],["flaw_ends","Board.family_of","Board.hands_beside","takeable","targets_of","posted","sendings","step_ends","hand_ends","ends_on","Board.__init__","do_on"]⟩
def i4:Df:=⟨"Board.hands_beside","hands_beside","Board",(L2.cA (eE 13) 2),["self","hand","name"],["self","hand","name"],["self"],[],["flaw_ends","Board.family_of","Board.hands_beside","takeable","targets_of","posted","sendings","step_ends","hand_ends","ends_on","Board.__init__","do_on"]⟩
def ss:Df:=⟨"takeable","takeable","",(eE 22),["board","roads","hand","take","found","sender","place","kind","letters","spots"],["board","roads","hand","take"],["board","found"],[],["flaw_ends","Board.family_of","Board.hands_beside","takeable","targets_of","posted","sendings","step_ends","hand_ends","ends_on","Board.__init__","do_on"]⟩
def lW:Df:=⟨"cells_behind","cells_behind","",(eE 25),["family","cells","step","values","given","name","amount","numbers","place","cell","number"],["family","cells","step","values"],["given","numbers"],[],["flaw_ends","Board.family_of","Board.hands_beside","takeable","targets_of","posted","sendings","step_ends","hand_ends","ends_on","Board.__init__","do_on"]⟩
def mN:Df:=⟨"whos_behind","whos_behind","",(eE 26),["family","whos","take","letter"],["family","whos","take","letter"],[],[],["flaw_ends","Board.family_of","Board.hands_beside","takeable","targets_of","posted","sendings","step_ends","hand_ends","ends_on","Board.__init__","do_on"]⟩
def oJ:Df:=⟨"targets_of","targets_of","",(eE 28),["board","hand","way","name","whos","others"],["board","hand","way","name","whos"],["board"],[],["flaw_ends","Board.family_of","Board.hands_beside","takeable","targets_of","posted","sendings","step_ends","hand_ends","ends_on","Board.__init__","do_on"]⟩
def vP:Df:=⟨"posted","posted","",(eE 29),["board","roads","hand","targets","letter","target","place","road","letters"],["board","roads","hand","targets","letter"],["board"],[],["flaw_ends","Board.family_of","Board.hands_beside","takeable","targets_of","posted","sendings","step_ends","hand_ends","ends_on","Board.__init__","do_on"]⟩
def su:Df:=⟨"sendings","sendings","",(eE 27),["board","hand","sends","values","roads","whos","ways","mark","amount","way","name","letter","further","chosen","sent","added","targets","roads_behind"],["board","hand","sends","values","roads","whos"],["board","further"],[],["flaw_ends","Board.family_of","Board.hands_beside","takeable","targets_of","posted","sendings","step_ends","hand_ends","ends_on","Board.__init__","do_on"]⟩
def pp:Df:=⟨"step_ends","step_ends","",(eE 24),["board","standing","hand","step","letter","family","room","cells","whos","roads","values","place","hands","ends","chosen","roads_behind"],["board","standing","hand","step","letter"],["board","ends","values"],["values","values_of"],["flaw_ends","Board.family_of","Board.hands_beside","takeable","targets_of","posted","sendings","step_ends","hand_ends","ends_on","Board.__init__","do_on"]⟩
def pC:Df:=⟨"hand_ends","hand_ends","",(eE 20),["board","standing","hand","family","room","cells","whos","values","ends","step","letter"],["board","standing","hand"],["board","ends"],[],["flaw_ends","Board.family_of","Board.hands_beside","takeable","targets_of","posted","sendings","step_ends","hand_ends","ends_on","Board.__init__","do_on"]⟩
def ur:Df:=⟨"ends_on","ends_on","",(eE 19),["board","standing","ends","hand"],["board","standing"],["board","ends"],[],["flaw_ends","Board.family_of","Board.hands_beside","takeable","targets_of","posted","sendings","step_ends","hand_ends","ends_on","Board.__init__","do_on"]⟩
def mQ:Df:=⟨"families_of","families_of","",(eE 14),["plan","homes","place","family"],["plan"],["homes"],[],["flaw_ends","Board.family_of","Board.hands_beside","takeable","targets_of","posted","sendings","step_ends","hand_ends","ends_on","Board.__init__","do_on"]⟩
def sw:Df:=⟨"pairs_of","pairs_of","",(eE 15),["plan","names","pairs","road","one","name","others"],["plan"],["pairs"],[],["flaw_ends","Board.family_of","Board.hands_beside","takeable","targets_of","posted","sendings","step_ends","hand_ends","ends_on","Board.__init__","do_on"]⟩
def oM:Df:=⟨"Board.__init__","__init__","Board",(L2.cA (eE 13) 0),["self","plan","place","pair","hand"],["self","plan"],["self"],["families_of","pairs_of","places","self"],["flaw_ends","Board.family_of","Board.hands_beside","takeable","targets_of","posted","sendings","step_ends","hand_ends","ends_on","Board.__init__","do_on"]⟩
def pF:Df:=⟨"ends_from","ends_from","",(eE 18),["plan","standing"],["plan","standing"],[],[],["flaw_ends","Board.family_of","Board.hands_beside","takeable","targets_of","posted","sendings","step_ends","hand_ends","ends_on","Board.__init__","do_on"]⟩
def mO:Df:=⟨"_law_spoiled","_law_spoiled","",(eE 52),["_law_drawn","_law_deed","_law_at","_law_parts"],["_law_drawn","_law_deed"],["_law_parts"],[],["flaw_ends","Board.family_of","Board.hands_beside","takeable","targets_of","posted","sendings","step_ends","hand_ends","ends_on","Board.__init__","do_on"]⟩
def yd:Df:=⟨"do_on","do_on","",(eE 17),["board","standing","deed","known","end"],["board","standing","deed"],["board"],[],["flaw_ends","Board.family_of","Board.hands_beside","takeable","targets_of","posted","sendings","step_ends","hand_ends","ends_on","Board.__init__","do_on"]⟩
def E_:Df:=⟨"do","do","",(eE 16),["plan","standing","deed"],["plan","standing","deed"],[],[],["flaw_ends","Board.family_of","Board.hands_beside","takeable","targets_of","posted","sendings","step_ends","hand_ends","ends_on","Board.__init__","do_on"]⟩
def sB:Df:=⟨"_law_told","_law_told","",(eE 51),["_law_plan_here","_law_standing_here","_law_deed","_law_end","_law_kept","e"],["_law_plan_here","_law_standing_here","_law_deed"],[],[],["flaw_ends","Board.family_of","Board.hands_beside","takeable","targets_of","posted","sendings","step_ends","hand_ends","ends_on","Board.__init__","do_on"]⟩
def sG:Df:=⟨"law","law","",(eE 53),["_law_script","_law_plan_here","_law_standing_here","_law_due","_law_some","_law_k","_law_pair","_law_handed","_law_deed","_law_ends","_law_told_here"],["_law_script"],["_law_some"],[],["flaw_ends","Board.family_of","Board.hands_beside","takeable","targets_of","posted","sendings","step_ends","hand_ends","ends_on","Board.__init__","do_on"]⟩
noncomputable def Att:At:=[("Board",["families","homes","members","pairs","places"])]
noncomputable def nl:Ex:=[("RoadError",["RoadError","ValueError"]),("NoText",["NoText","RoadError","ValueError"]),("NoPlan",["NoPlan","RoadError","ValueError"]),("NoDeed",["NoDeed","RoadError","ValueError"]),("NotPossible",["NotPossible","RoadError","ValueError"]),("TooMany",["TooMany","RoadError","ValueError"])]
noncomputable def Rs:LS:=["NoDeed"]
def Tb:List Df:=[mP,uq,pu,sE,pB,uo,pq,k8,sC,oK,sD,lV,sF,pA,lU,sH,lT,sv,um,vQ,pD,j7,pk,sI,sr,yc,i4,ss,lW,mN,oJ,vP,su,pp,pC,ur,mQ,sw,oM,pF,mO,yd,E_,sB,sG]
noncomputable def Ph(n:Nat):Str->GF:=IT Gv Att nl Rs Tb n
noncomputable def Xh(n:Nat):Str->GX:=IS Gv Att nl Rs Tb n
def gA (x h:Str->GF):ES:=(af (dW (bV (ac AW (vv 1) (eH (aa 0)))) (aI (eV (ac ar (vv 0) (vv 1)))) ff)
  (aI (eV (vi 0))))
theorem jc(n:Nat):Ph (n+2) "_law_cell_at"=cM 2 2 (gA (Ph (n+1)) (Ph n)):=by kernel_rfl
def gZ(x h:Str->GF):ES:=(am 0 (eV (ac aB (vv 0) (vi 2147483648))))
def jU (x h:Str->GF):ES:=(af (dW (bV (ac ID (vv 0) (ac ye (vi 10) (vi 12)))) (af (am 0 (eV (ac sJ (ac aB (vv 0) (ac ye (vi 10) (vi 12))) (vi 1))))
  (af (cb (io (ac aO (vv 1) (vi 61))) (ak 2) (gZ x h))
  (aI (eV (ac aO (vv 0) (vi 2147483648)))))) ff)
  (af (am 3 (eV (ac aO (ac fm (ac au (ac au (ac aO (vv 0) (vi 1000003)) (ac fm (ac fm (vv 1) (vv 1)) (vi 7919))) (vv 1)) (vi 48271)) (vi 2147483629))))
  (af (am 3 (eV (ac aO (ac fm (vv 3) (vv 3)) (vi 2147483587))))
  (aI (eV (ac aB (ac aO (ac fm (vv 3) (ac au (vv 3) (vi 2))) (vi 2147483579)) (vi 7)))))))
theorem ms(n:Nat):Ph (n+2) "_law_mix"=cM 2 4 (jU (Ph (n+1)) (Ph n)):=by kernel_rfl
def dj (h x:Str->GF):ES:=(af (am 8 (eV (ah (pureOf (h "_law_mix")) (v2 (ah (pureOf (h "_law_cell_at")) (v2 (vv 0) (vi 4))) (ac au (ac au (vi 30) (ac fm (vi 4) (vv 4))) (vv 6))))))
  (dW (g8 (bV (ac FO (ac aO (vv 8) (vi 4)) (vi 0))) (bV (ac AW (eH (aa 3)) (vi 8)))) (af (am 9 (eV (ac ar (aP (v2 (vt "row") (vt "heap"))) (ac aO (ac aB (vv 8) (vi 4)) (vi 2)))))
  (bN (bj (aa 3) (eV (aw (v6 (vv 5) (vv 7) (vv 9) (ac au (vi 1) (ac aO (ac aB (vv 8) (vi 8)) (vv 2))) (aC eC (eV (ac aO (ac aB (vv 8) (vi 24)) (vi 3))) (eV (vi 1))) (aC eC (eV (ac aO (ac aB (vv 8) (vi 72)) (vi 3))) (eV (vi 1))))))))) ff))
def fO(x h:Str->GF):ES:=(cb (o8 (vv 1)) (aK [ak 6,ak 7]) (dj x h))
def kj (x h:Str->GF):ES:=(af (am 3 (cD aN))
  (af (cb (o8 (vv 1)) (aK [ak 4,ak 5]) (fO x h))
  (aI (aa 3))))
theorem pe(n:Nat):Ph (n+2) "_law_roads"=cM 3 10 (kj (Ph (n+1)) (Ph n)):=by kernel_rfl
def lg (h x:Str->GF):ES:=(af (am 2 (eV (ah (pureOf (h "_law_mix")) (v2 (ah (pureOf (h "_law_cell_at")) (v2 (vv 0) (vi 1))) (vv 1)))))
  (aI (eV (ac au (ac fm (ac ar (vt "abcdefghijklmnop") (vv 1)) (ac au (vi 1) (ac aO (vv 2) (vi 4)))) (ac ar (vt "xyz") (ac aO (ac aB (vv 2) (vi 4)) (vi 3)))))))
theorem r_(n:Nat):Ph (n+2) "_law_name"=cM 2 3 (lg (Ph (n+1)) (Ph n)):=by kernel_rfl
def fP (h x:Str->GF):ES:=(af (am 5 (eV (ah (pureOf (h "_law_mix")) (v2 (ah (pureOf (h "_law_cell_at")) (v2 (vv 0) (ac au (vi 2) (vv 1)))) (ac au (vi 2) (vv 4))))))
  (af (am 6 (eV (ac ar (aP (v4 (vi 0) (vi 0) (yI oO (vi 1)) (vi 5))) (ac aO (vv 5) (vi 4)))))
  (af (am 7 (eV (ac au (vv 6) (ac ar (aP (v4 (vi 1) (vi 2) (vi 0) (vi 1))) (ac aO (ac aB (vv 5) (vi 4)) (vi 4))))))
  (bN (bj (aa 3) (eV (aw (v4 (ah (pureOf (h "_law_name")) (v2 (vv 0) (ac au (vi 2) (vv 4)))) (vv 6) (vv 7) (ac au (vv 6) (ac aO (ac aB (vv 5) (vi 16)) (ac au (ac sJ (vv 7) (vv 6)) (vi 1))))))))))))
def km (h x:Str->GF):ES:=(af (am 3 (cD aN))
  (af (cb (io (ac aO (ah (pureOf (h "_law_mix")) (v2 (ah (pureOf (h "_law_cell_at")) (v2 (vv 0) (ac au (vi 2) (vv 1)))) (vi 1))) (ac au (vv 2) (vi 1)))) (ak 4) (fP h x))
  (aI (aa 3))))
theorem ph(n:Nat):Ph (n+2) "_law_cells"=cM 3 8 (km (Ph (n+1)) (Ph n)):=by kernel_rfl
def d7 (x h:Str->GF):ES:=(af (dW (uO (bV (aC eC (aa 1) (eV (aP aN)))) (bV (aC eC (eV (ac aO (vv 0) (vi 5))) (eV (vi 0))))) (aI (eV (aw (v2 (vt "number") (ac aO (ac aB (vv 0) (vi 5)) (vi 3)))))) ff)
  (af (am 2 (eV (aw (v2 (vt "name") (ac ar (vv 1) (ac aO (ac aB (vv 0) (vi 5)) (eH (aa 1))))))))
  (af (dW (bV (aC eC (eV (ac aO (vv 0) (vi 5))) (eV (vi 1)))) (aI (aa 2)) ff)
  (af (dW (bV (aC eC (eV (ac aO (vv 0) (vi 5))) (eV (vi 2)))) (aI (eV (aw (v3 (vt "plus") (vv 2) (aw (v2 (vt "number") (ac aO (ac aB (vv 0) (vi 20)) (vi 3)))))))) ff)
  (af (dW (bV (aC eC (eV (ac aO (vv 0) (vi 5))) (eV (vi 3)))) (aI (eV (aw (v3 (vt "minus") (aw (v3 (vt "times") (vv 2) (aw (v2 (vt "number") (ac aO (ac aB (vv 0) (vi 20)) (vi 3)))))) (aw (v2 (vt "number") (ac aO (ac aB (vv 0) (vi 60)) (vi 2)))))))) ff)
  (aI (eV (aw (v3 (vt "minus") (aw (v2 (vt "number") (vi 1))) (vv 2))))))))))
theorem fh(n:Nat):Ph (n+2) "_law_sum"=cM 2 3 (d7 (Ph (n+1)) (Ph n)):=by kernel_rfl
def bD (h x:Str->GF):ES:=(af (am 9 (eV (ac aB (vv 0) (ac ar (aP (v3 (vi 4) (vi 1000) (vi 100000))) (vv 8)))))
  (af (am 10 (eV (ah (pureOf (h "_law_sum")) (v2 (ac aO (ac aB (vv 9) (vi 12)) (vi 300)) (vv 2)))))
  (af (am 11 (eV (ac ar (aP (v2 (vt "ma") (vt "mb"))) (ac aO (vv 9) (vi 2)))))
  (dW (g8 (bV (aC pa (aa 3) (eV (aP aN)))) (bV (aC eC (eV (ac aO (ac aB (vv 9) (vi 2)) (vi 3))) (eV (vi 1))))) (bN (bj (aa 7) (eV (aw (v4 (vv 11) (vv 10) (vt "who") (ac ar (vv 3) (ac aO (ac aB (vv 9) (vi 50)) (eH (aa 3))))))))) (dW (bV (aC pa (aa 6) (eV (aP aN)))) (bN (bj (aa 7) (eV (aw (v4 (vv 11) (vv 10) (ac ar (aP (v2 (vt "all") (vt "any"))) (ac fm (ac aO (ac aB (vv 9) (vi 6)) (vi 2)) (ah bS (v1 (ac AW (vv 8) (vi 2)))))) (ac ar (vv 6) (ac aO (ac aB (vv 9) (vi 3)) (eH (aa 6))))))))) ff)))))
def ki (x h:Str->GF):ES:=(af (am 6 (eV (bo (iH (vv 4)) [] 1 (ak 12) (bV (aC eC (eV (ac ar (vv 12) (vi 0))) (aa 1))) (ac ar (vv 12) (vi 1)))))
  (af (am 7 (cD aN))
  (af (cb (io (ac aO (vv 0) (ac au (vv 5) (vi 1)))) (ak 8) (bD x h))
  (aI (aa 7)))))
theorem pc(n:Nat):Ph (n+2) "_law_sends"=cM 6 12 (ki (Ph (n+1)) (Ph n)):=by kernel_rfl
def bY (h x:Str->GF):ES:=(af (dW (uO (bV (aC eC (aa 1) (eV (aP aN)))) (bV (ac AW (ac aO (vv 0) (vi 5)) (vi 2)))) (aI (eV (aw (v1 (vt "true"))))) ff)
  (af (am 2 (eV (ac ar (aP (v6 (vt "=") (vt "!=") (vt "<") (vt "<=") (vt ">") (vt ">="))) (ac aO (ac aB (vv 0) (vi 5)) (vi 6)))))
  (af (am 3 (eV (aw (v4 (vt "is") (vv 2) (aw (v2 (vt "name") (ac ar (vv 1) (ac aO (ac aB (vv 0) (vi 30)) (eH (aa 1)))))) (ah (pureOf (h "_law_sum")) (v2 (ac aB (vv 0) (vi 90)) (vv 1)))))))
  (af (dW (bV (aC eC (eV (ac aO (vv 0) (vi 5))) (eV (vi 2)))) (aI (eV (aw (v2 (vt "not") (vv 3))))) ff)
  (af (dW (bV (aC eC (eV (ac aO (vv 0) (vi 5))) (eV (vi 3)))) (aI (eV (aw (v3 (vt "or") (vv 3) (aw (v3 (vt "and") (aw (v1 (vt "true"))) (aw (v4 (vt "is") (vt "=") (aw (v2 (vt "number") (vi 1))) (aw (v2 (vt "name") (ac ar (vv 1) (vi 0)))))))))))) ff)
  (aI (aa 3)))))))
theorem cK(n:Nat):Ph (n+2) "_law_condition"=cM 2 4 (bY (Ph (n+1)) (Ph n)):=by kernel_rfl
def aJ (x h:Str->GF):ES:=(dW (g8 (bV (aC pa (aa 7) (eV (aP aN)))) (bV (aC eC (eV (ac aO (ac ar (vv 0) (vi 0)) (vi 3))) (eV (vi 1))))) (af (am 11 (eV (vt "")))
  (af (dW (g8 (bV (aC pa (aa 6) (eV (aP aN)))) (bV (aC eC (eV (ac aO (ac aB (ac ar (vv 0) (vi 0)) (vi 3)) (vi 2))) (eV (vi 1))))) (af (am 11 (eV (ac ar (vv 6) (yI oO (vi 1)))))
  (am 9 (eV (jB (vv 6) fZ (fI (yI oO (vi 1))))))) ff)
  (af (am 12 (eV (vt "")))
  (af (dW (g8 (bV (aC pa (aa 4) (eV (aP aN)))) (bV (aC eC (eV (ac aO (ac aB (ac ar (vv 0) (vi 0)) (vi 6)) (vi 2))) (eV (vi 1))))) (am 12 (eV (ac ar (vv 4) (ac aO (ac aB (ac ar (vv 0) (vi 0)) (vi 200)) (eH (aa 4)))))) ff)
  (af (am 8 (eV (aw (v4 (ac ar (aP (v2 (vt "ma") (vt "mb"))) (ac aO (ac aB (ac ar (vv 0) (vi 0)) (vi 12)) (vi 2))) (ac ar (vv 7) (ac aO (ac aB (ac ar (vv 0) (vi 0)) (vi 24)) (eH (aa 7)))) (vv 11) (vv 12)))))
  (am 10 (eV (aP (v1 (vt "it")))))))))) ff)
def eR(h x:Str->GF):ES:=(dW (bV (aC eC (eV (ac aO (ac aB (ac ar (vv 0) (vi 1)) (ac ar (aP (v3 (vi 1) (vi 1000) (vi 1000000))) (vv 14))) (vi 2))) (eV (vi 1)))) (bN (bj (aa 13) (eV (aw (v2 (vv 15) (ah (pureOf (h "_law_sum")) (v2 (ac aO (ac aB (ac ar (vv 0) (vi 1)) (ac ar (aP (v3 (vi 2) (vi 2000) (vi 2000000))) (vv 14))) (vi 300)) (ac au (vv 6) (vv 10))))))))) ff)
def lf (h x:Str->GF):ES:=(af (am 6 (eV (bo (iH (vv 3)) [] 1 (ak 18) ir (ac ar (vv 18) (vi 0)))))
  (af (am 7 (eV (bo (iH (vv 5)) [] 1 (ak 18) (bV (aC eC (eV (ac ar (vv 18) (vi 1))) (aa 1))) (ac ar (vv 18) (vi 0)))))
  (af (am 8 (eV (vC (.non))))
  (af (am 9 (eV (ah iq (v1 (vv 6)))))
  (af (am 10 (eV (aP aN)))
  (af (aJ h x)
  (af (am 13 (cD aN))
  (af (cb (o8 (vv 9)) (aK [ak 14,ak 15]) (eR h x))
  (af (am 16 (eV (ah (pureOf (h "_law_sends")) (v6 (ac ar (vv 0) (vi 2)) (vv 1) (ac au (vv 6) (vv 10)) (vv 4) (vv 5) (ac au (vi 2) (ah bS (v1 (ac FO (eH (aa 2)) (vi 3)))))))))
  (af (am 17 (eV (ah (pureOf (h "_law_condition")) (v2 (ac aO (ac ar (vv 0) (vi 3)) (vi 27000)) (vv 6)))))
  (aI (eV (aw (v6 (ac ar (vv 2) (ac aO (ac aB (ac ar (vv 0) (vi 3)) (vi 27000)) (eH (aa 2)))) (vv 17) (vv 8) (vv 13) (vv 16) (ac ar (vv 2) (ac aO (ac aB (ac ar (vv 0) (vi 3)) (vi 216000)) (eH (aa 2))))))))))))))))))
theorem rZ(n:Nat):Ph (n+2) "_law_step"=cM 6 18 (lf (Ph (n+1)) (Ph n)):=by kernel_rfl
def fG (h x:Str->GF):ES:=(af (am 12 (eV (ac fm (vi 4) (ac au (ac fm (vi 8) (vv 1)) (vv 11)))))
  (af (am 7 (eV (bo (io (vi 4)) [] 1 (ak 13) ir (ah (pureOf (h "_law_mix")) (v2 (ah (pureOf (h "_law_cell_at")) (v2 (vv 0) (ac au (vi 5) (ac aO (ac au (vv 12) (vv 13)) (vi 24))))) (ac au (ac au (vi 11) (vv 12)) (vv 13)))))))
  (bN (bj (aa 10) (eV (ac au (aw (v1 (ah (pureOf (h "_law_name")) (v2 (vv 0) (ac au (vi 8) (vv 11)))))) (ah (pureOf (h "_law_step")) (v6 (vv 7) (vv 2) (vv 8) (vv 6) (vv 9) (vv 5)))))))))
def jV (h x:Str->GF):ES:=(af (am 6 (eV (ah (pureOf (h "_law_cells")) (v3 (vv 0) (vv 1) (ac au (vi 2) (ah bS (v1 (vv 4))))))))
  (af (am 7 (eV (ah (pureOf (h "_law_mix")) (v2 (ah (pureOf (h "_law_cell_at")) (v2 (vv 0) (ac au (vi 2) (vv 1)))) (vi 9)))))
  (af (am 8 (eV (bo (io (ac au (vi 1) (ac aO (vv 7) (ac ar (aP (v2 (vi 3) (vi 8))) (ah bS (v1 (vv 4))))))) [11] 0 (ak 11) ir (ah (pureOf (h "_law_name")) (v2 (vv 0) (ac au (vi 4) (vv 11)))))))
  (af (am 7 (eV (ah (pureOf (h "_law_mix")) (v2 (ah (pureOf (h "_law_cell_at")) (v2 (vv 0) (ac au (vi 2) (vv 1)))) (vi 8)))))
  (af (am 9 (eV (bo (io (ac aO (vv 7) (ac au (vi 2) (ah bS (v1 (vv 4)))))) [11] 0 (ak 11) ir (ah (pureOf (h "_law_name")) (v2 (vv 0) (ac au (vi 10) (vv 11)))))))
  (af (am 10 (cD aN))
  (af (cb (io (ac au (vi 1) (ac aO (ah (pureOf (h "_law_mix")) (v2 (ah (pureOf (h "_law_cell_at")) (v2 (vv 0) (ac au (vi 2) (vv 1)))) (vi 7))) (ac ar (aP (v2 (vi 3) (vi 8))) (ah bS (v1 (vv 4))))))) (ak 11) (fG h x))
  (aI (eV (aw (v6 (vv 2) (vv 3) (vv 8) (vv 6) (vv 9) (vv 10))))))))))))
theorem oC(n:Nat):Ph (n+2) "_law_family"=cM 6 13 (jV (Ph (n+1)) (Ph n)):=by kernel_rfl
def gy (h x:Str->GF):ES:=(af (am 10 (eV (ac au (vi 1) (ac aO (ac aB (vv 2) (ac ar (aP (v4 (vi 4) (vi 12) (vi 16) (vi 16))) (vv 8))) (ac ar (aP (v4 (ac au (vv 1) (ah bS (v1 (vv 3)))) (vi 2) (vi 1) (vi 1))) (ac sJ (vv 4) (vi 1)))))))
  (bN (bj (aa 7) (eV (ah (pureOf (h "_law_family")) (v6 (vv 0) (vv 8) (vv 9) (vv 10) (vv 3) (vv 6)))))))
def gw (h x:Str->GF):ES:=(af (am 12 (eV (ah (pureOf (h "_law_mix")) (v2 (ah (pureOf (h "_law_cell_at")) (v2 (vv 0) (vi 4))) (ac au (vi 20) (vv 8))))))
  (af (am 13 (mK (aa 7) (ac aO (vv 12) (vv 4))))
  (bN (bj (aa 11) (eV (aw (v3 (ac ar (aP (v2 (vt "weak") (vt "strong"))) (ac aO (ac aB (vv 12) (vi 4)) (vi 2))) (ac ar (vv 13) (vi 0)) (ac ar (ac ar (ac ar (vv 13) (vi 5)) (ac aO (ac aB (vv 12) (vi 8)) (eH (eV (ac ar (vv 13) (vi 5)))))) (vi 0)))))))))
def i8 (h x:Str->GF):ES:=(af (am 2 (eV (ah (pureOf (h "_law_cell_at")) (v2 (vv 0) (vi 0)))))
  (af (am 3 (eV (aC eC (eV (ac aO (ac aB (vv 2) (vi 64)) (vi 8))) (eV (vi 1)))))
  (af (am 4 (eV (ac au (vi 1) (ac aO (vv 2) (ac ar (aP (v2 (vi 2) (vi 4))) (ah bS (v1 (vv 3))))))))
  (af (am 5 (eV (bo (io (vv 4)) [8] 0 (ak 8) ir (ah (pureOf (h "_law_name")) (v2 (vv 0) (vv 8))))))
  (af (am 6 (eV (ah (pureOf (h "_law_roads")) (v3 (vv 0) (vv 5) (ac au (vi 2) (ah bS (v1 (vv 3))))))))
  (af (am 7 (cD aN))
  (af (cb (o8 (vv 5)) (aK [ak 8,ak 9]) (gy h x))
  (af (am 11 (cD aN))
  (af (cb (io (ac au (ac aO (ac aB (vv 2) (vi 48)) (vi 3)) (ac fm (vi 4) (ah bS (v1 (vB (g8 (bV (vv 3)) (bV (aC eC (eV (ac aO (vv 2) (vi 3))) (eV (vi 1))))))))))) (ak 8) (gw h x))
  (aI (eV (aw (v3 (vv 7) (vv 6) (vv 11))))))))))))))
theorem r9(n:Nat):Ph (n+2) "_law_plan"=cM 2 14 (i8 (Ph (n+1)) (Ph n)):=by kernel_rfl
def eF(x h:Str->GF):ES:=(am 1 (eV (ac au (vv 1) (ac fm (aP (v1 (vv 2))) (ac ar (vv 2) (vi 1))))))
def iG (x h:Str->GF):ES:=(af (am 1 (eV (aP aN)))
  (af (cb (iH (ac ar (vv 0) (vi 0))) (ak 2) (eF x h))
  (aI (aa 1))))
theorem lS(n:Nat):Ph (n+2) "_law_families"=cM 1 3 (iG (Ph (n+1)) (Ph n)):=by kernel_rfl
def lh(h x:Str->GF):ES:=(aI (eV (bo (o8 (ah (pureOf (h "_law_families")) (v1 (vv 0)))) [] 2 (aK [ak 2,ak 3]) (bV (aC eC (eV (ac ar (vv 3) (vi 0))) (aa 1))) (vv 2))))
theorem sd(n:Nat):Ph (n+2) "_law_crew"=cM 2 2 (lh (Ph (n+1)) (Ph n)):=by kernel_rfl
def ey(x h:Str->GF):ES:=(dW (bV (aC pa (aa 3) (aa 4))) (bN (bj (aa 1) (eV (aw (v3 (vv 2) (vv 3) (vv 4)))))) ff)
def iF(h x:Str->GF):ES:=(cb (iH (ah (pureOf (h "_law_crew")) (v2 (vv 0) (ac ar (vv 2) (vi 1))))) (ak 4) (ey h x))
def iD(h x:Str->GF):ES:=(cb (iH (ah (pureOf (h "_law_crew")) (v2 (vv 0) (ac ar (vv 2) (vi 0))))) (ak 3) (iF h x))
def kl (x h:Str->GF):ES:=(af (am 1 (cD aN))
  (af (cb (iH (ac ar (vv 0) (vi 1))) (ak 2) (iD x h))
  (aI (aa 1))))
theorem pf(n:Nat):Ph (n+2) "_law_pairs"=cM 1 5 (kl (Ph (n+1)) (Ph n)):=by kernel_rfl
def db(x h:Str->GF):ES:=(bN (bj (aa 7) (eV (ac au (ac ar (vv 9) (vi 1)) (ac aO (ac aB (vv 6) (ac ar (aP (v3 (vi 8) (vi 32) (vi 128))) (vv 8))) (ac au (ac sJ (ac ar (vv 9) (vi 2)) (ac ar (vv 9) (vi 1))) (vi 1)))))))
def c_(x h:Str->GF):ES:=(bN (bj (aa 10) (eV (ac sJ (ac aO (ac aB (vv 6) (ac ar (aP (v2 (vi 512) (vi 4096))) (vv 8))) (ac au (eH (aa 3)) (vi 1))) (vi 1)))))
def cZ (h x:Str->GF):ES:=(af (am 6 (eV (ah (pureOf (h "_law_mix")) (v2 (ah (pureOf (h "_law_cell_at")) (v2 (vv 0) (ac au (vi 29) (vv 4)))) (vi 31)))))
  (af (am 7 (cD aN))
  (af (cb (o8 (ac ar (vv 5) (vi 3))) (aK [ak 8,ak 9]) (db h x))
  (af (am 10 (cD aN))
  (af (cb (io (eH (eV (ac ar (vv 5) (vi 4))))) (ak 8) (c_ h x))
  (bN (bj (aa 2) (eV (aw (v3 (ac aO (vv 6) (eH (eV (ac ar (vv 5) (vi 2))))) (ah bu (v1 (vv 7))) (ah bu (v1 (vv 10)))))))))))))
def cY (x h:Str->GF):ES:=(af (am 15 (eV (ac au (ac sJ (ac aO (ac aB (vv 6) (ac ar (aP (v3 (vi 8) (vi 800) (vi 80000))) (vv 8))) (vi 4)) (vi 1)) (ac ar (aP (v4 (vi 0) (vi 997) (vi 0) (yI oO (vi 998)))) (ac aO (ac aB (vv 6) (vi 8000000)) (vi 4))))))
  (bN (bj (aa 14) (eV (aw (v2 (ac ar (aP (v2 (vt "ma") (vt "mb"))) (ac aO (ac aB (vv 6) (ac ar (aP (v3 (vi 4) (vi 400) (vi 40000))) (vv 8))) (vi 2))) (vv 15)))))))
def cX (h x:Str->GF):ES:=(af (am 6 (eV (ah (pureOf (h "_law_mix")) (v2 (ah (pureOf (h "_law_cell_at")) (v2 (vv 0) (ac au (vi 34) (ac aO (vv 12) (vi 20))))) (ac au (vi 33) (ac aB (vv 12) (vi 20)))))))
  (af (am 14 (cD aN))
  (af (cb (io (ac aO (vv 6) (ac au (ac ar (ac ar (vv 13) (vi 0)) (vi 3)) (vi 1)))) (ak 8) (cY h x))
  (af (dW (bV (aC eC (eV (ac ar (ac ar (vv 13) (vi 0)) (vi 2))) (eV (vt "heap")))) (am 14 (eV (pL (aa 14)))) ff)
  (bN (bj (aa 11) (eV (ah bu (v1 (vv 14))))))))))
def fN (h x:Str->GF):ES:=(af (am 2 (cD aN))
  (af (am 3 (eV (ah (pureOf (h "_law_families")) (v1 (vv 1)))))
  (af (cb (o8 (vv 3)) (aK [ak 4,ak 5]) (cZ h x))
  (af (am 11 (cD aN))
  (af (cb (o8 (ah (pureOf (h "_law_pairs")) (v1 (vv 1)))) (aK [ak 12,ak 13]) (cX h x))
  (aI (eV (aw (v2 (ah bu (v1 (vv 2))) (ah bu (v1 (vv 11))))))))))))
theorem lR(n:Nat):Ph (n+2) "_law_standing"=cM 2 16 (fN (Ph (n+1)) (Ph n)):=by kernel_rfl
def eA (x h:Str->GF):ES:=(af (dW (bV (aC eC (aa 1) (eV (vt "lose")))) (aI (eV (ac ar (vv 0) (vi 4)))) ff)
  (aI (eV (vB (g8 (bV (ac ar (vv 0) (vi 5))) (bV (ac AW (eH (aa 2)) (ac ar (vv 0) (vi 3)))))))))
theorem fE(n:Nat):Ph (n+2) "has_flaw"=cM 3 3 (eA (Ph (n+1)) (Ph n)):=by kernel_rfl
def cm (x h:Str->GF):ES:=(af (am 2 (eV (Fw (eH (aa 1)))))
  (af (dW (bV (aC eC (aa 0) (eV (vt "row")))) (aI (aa 2)) ff)
  (aI (eV (bo (iH (vv 2)) [] 1 (ak 3) (bV (aC eC (eV (oW (vv 1) (ac ar (vv 1) (vv 3)))) (aa 3))) (vv 3))))))
theorem df(n:Nat):Ph (n+2) "unlike_spots"=cM 2 3 (cm (Ph (n+1)) (Ph n)):=by kernel_rfl
def fF(x h:Str->GF):ES:=(aI (eV (ac au (ac au (jB (vv 0) fZ (fI (vv 1))) (aw (v1 (vv 2)))) (jB (vv 0) (fI (ac au (vv 1) (vi 1))) fZ))))
theorem gF(n:Nat):Ph (n+2) "replaced"=cM 3 3 (fF (Ph (n+1)) (Ph n)):=by kernel_rfl
def f_(x h:Str->GF):ES:=(aI (eV (ac au (jB (vv 0) fZ (fI (vv 1))) (jB (vv 0) (fI (ac au (vv 1) (vi 1))) fZ))))
theorem hU(n:Nat):Ph (n+2) "without"=cM 2 2 (f_ (Ph (n+1)) (Ph n)):=by kernel_rfl
def eY (h x:Str->GF):ES:=(af (dW (bV (aC eC (aa 0) (eV (vt "lose")))) (aI (eV (ah (pureOf (h "without")) (v2 (vv 1) (vv 2))))) ff)
  (aI (eV (ac au (jB (vv 1) fZ (fI (ac au (vv 2) (vi 1)))) (jB (vv 1) (fI (vv 2)) fZ)))))
theorem gY(n:Nat):Ph (n+2) "flawed"=cM 3 3 (eY (Ph (n+1)) (Ph n)):=by kernel_rfl
def eB (h x:Str->GF):ES:=(af (am 11 (eV (ah (pureOf (h "replaced")) (v3 (ac ar (vv 1) (vi 1)) (vv 4) (ah (pureOf (h "flawed")) (v3 (vv 2) (vv 9) (vv 10)))))))
  (bN (bj (aa 3) (eV (aw (v2 (aw (v4 (vv 2) (vv 7) (vv 8) (vv 10))) (aw (v2 (ac ar (vv 1) (vi 0)) (vv 11)))))))))
def dn (h x:Str->GF):ES:=(af (tw (aK [ak 6,ak 7,ak 8]) (vv 5))
  (af (am 9 (eV (ac ar (ac ar (vv 1) (vi 1)) (vv 4))))
  (dW (bT (eV (ah (pureOf (h "has_flaw")) (v3 (vv 6) (vv 2) (vv 9))))) (cb (iH (ah (pureOf (h "unlike_spots")) (v2 (ac ar (vv 6) (vi 2)) (vv 9)))) (ak 10) (eB h x)) ff)))
def cS (x h:Str->GF):ES:=(af (am 3 (cD aN))
  (af (cb (o8 (vE (d6 (aT Att) (aa 0) "pairs"))) (aK [ak 4,ak 5]) (dn x h))
  (aI (aa 3))))
theorem fW(n:Nat):Ph (n+2) "flaw_ends"=cM 3 12 (cS (Ph (n+1)) (Ph n)):=by kernel_rfl
def dc(x h:Str->GF):ES:=(aI (mK (d6 (aT Att) (aa 0) "families") (vE (mK (d6 (aT Att) (aa 0) "homes") (vv 1)))))
theorem cd(n:Nat):Ph (n+2) "Board.family_of"=cM 2 2 (dc (Ph (n+1)) (Ph n)):=by kernel_rfl
def eK(x h:Str->GF):ES:=(aI (se (bo (iH (ac ar (vv 0) (vi 3))) [] 1 (ak 2) ir (ac ar (vv 2) (vi 0))) (vv 1)))
theorem fU(n:Nat):Ph (n+2) "values_of"=cM 2 2 (eK (Ph (n+1)) (Ph n)):=by kernel_rfl
def bK (x h:Str->GF):ES:=(af (dW (bV (aC eC (aa 0) (eV (vt "=")))) (aI (eV (aC eC (aa 1) (aa 2)))) ff)
  (af (dW (bV (aC eC (aa 0) (eV (vt "!=")))) (aI (eV (aC pa (aa 1) (aa 2)))) ff)
  (af (dW (bV (aC eC (aa 0) (eV (vt "<")))) (aI (eV (ac AW (vv 1) (vv 2)))) ff)
  (af (dW (bV (aC eC (aa 0) (eV (vt "<=")))) (aI (eV (ac IC (vv 1) (vv 2)))) ff)
  (af (dW (bV (aC eC (aa 0) (eV (vt ">")))) (aI (eV (ac FO (vv 1) (vv 2)))) ff)
  (aI (eV (ac ID (vv 1) (vv 2)))))))))
theorem gG(n:Nat):Ph (n+2) "compared"=cM 3 3 (bK (Ph (n+1)) (Ph n)):=by kernel_rfl
def bI (h x:Str->GF):ES:=(af (am 2 (eV (ac ar (vv 0) (vi 0))))
  (af (dW (bV (aC eC (aa 2) (eV (vt "number")))) (aI (eV (ac ar (vv 0) (vi 1)))) ff)
  (af (dW (bV (aC eC (aa 2) (eV (vt "name")))) (aI (eV (ac ar (vv 1) (ac ar (vv 0) (vi 1))))) ff)
  (af (am 3 (eV (ah (pureOf (h "value_of")) (v2 (ac ar (vv 0) (vi 1)) (vv 1)))))
  (af (am 4 (eV (ah (pureOf (h "value_of")) (v2 (ac ar (vv 0) (vi 2)) (vv 1)))))
  (af (dW (bV (aC eC (aa 2) (eV (vt "plus")))) (aI (eV (ac au (vv 3) (vv 4)))) ff)
  (af (dW (bV (aC eC (aa 2) (eV (vt "minus")))) (aI (eV (ac sJ (vv 3) (vv 4)))) ff)
  (aI (eV (ac fm (vv 3) (vv 4)))))))))))
theorem cJ(n:Nat):Ph (n+2) "value_of"=cM 2 5 (bI (Ph (n+1)) (Ph n)):=by kernel_rfl
def dN (h x:Str->GF):ES:=(af (am 2 (eV (ac ar (vv 0) (vi 0))))
  (af (dW (bV (aC eC (aa 2) (eV (vt "true")))) (aI (eV (vC (.bl true)))) ff)
  (af (dW (bV (aC eC (aa 2) (eV (vt "not")))) (aI (eV (vB (oS (bV (ah (pureOf (h "holds")) (v2 (ac ar (vv 0) (vi 1)) (vv 1)))))))) ff)
  (af (dW (bV (aC eC (aa 2) (eV (vt "and")))) (aI (eV (vB (g8 (bV (ah (pureOf (h "holds")) (v2 (ac ar (vv 0) (vi 1)) (vv 1)))) (bV (ah (pureOf (h "holds")) (v2 (ac ar (vv 0) (vi 2)) (vv 1)))))))) ff)
  (af (dW (bV (aC eC (aa 2) (eV (vt "or")))) (aI (eV (vB (uO (bV (ah (pureOf (h "holds")) (v2 (ac ar (vv 0) (vi 1)) (vv 1)))) (bV (ah (pureOf (h "holds")) (v2 (ac ar (vv 0) (vi 2)) (vv 1)))))))) ff)
  (aI (eV (ah (pureOf (h "compared")) (v3 (ac ar (vv 0) (vi 1)) (ah (pureOf (h "value_of")) (v2 (ac ar (vv 0) (vi 2)) (vv 1))) (ah (pureOf (h "value_of")) (v2 (ac ar (vv 0) (vi 3)) (vv 1))))))))))))
theorem fj(n:Nat):Ph (n+2) "holds"=cM 2 3 (dN (Ph (n+1)) (Ph n)):=by kernel_rfl
def bv(x h:Str->GF):ES:=(aI (eV (bo (iH (vE (mK (d6 (aT Att) (aa 0) "members") (vv 2)))) [] 1 (ak 3) (bV (aC pa (aa 3) (aa 1))) (vv 3))))
theorem ci(n:Nat):Ph (n+2) "Board.hands_beside"=cM 3 3 (bv (Ph (n+1)) (Ph n)):=by kernel_rfl
def dJ (h x:Str->GF):ES:=(af (am 6 (vK (d6 (aT Att) (aa 0) "places") (v2 (vv 5) (vv 2))))
  (af (am 7 (mK (mK (mK (d6 (aT Att) (aa 0) "pairs") (vv 6)) (vi 0)) (vi 2)))
  (af (am 8 (eV (ac ar (vv 1) (vv 6))))
  (af (am 9 (eV (CC (bV (aC eC (aa 7) (eV (vt "row")))) (jB (Fw (eH (aa 8))) fZ (fI (vi 1))) (ah (pureOf (h "unlike_spots")) (v2 (vv 7) (vv 8))))))
  (bN (d_ (aa 4) (bo (iH (vv 9)) [] 1 (ak 10) (bV (aC eC (eV (ac ar (ac ar (vv 8) (vv 10)) (vi 0))) (eV (ac ar (vv 3) (vi 0))))) (aw (v2 (vv 5) (vv 10))))))))))
def dF (h x:Str->GF):ES:=(af (dW (bV (aC ni (aa 3) (eV (vC (.non))))) (aI (eV (aP (v1 (vC (.non)))))) ff)
  (af (am 4 (cD aN))
  (af (cb (iH (vE (dS (mT Tb h) (aa 0) "hands_beside" (ae (aa 2) (ae (eV (ac ar (vv 3) (vi 1))) aV))))) (ak 5) (dJ h x))
  (aI (aa 4)))))
theorem fD(n:Nat):Ph (n+2) "takeable"=cM 4 10 (dF (Ph (n+1)) (Ph n)):=by kernel_rfl
def eG(h x:Str->GF):ES:=(dI (aa 4) (vv 5) (ah (pureOf (h "value_of")) (v2 (vv 6) (vv 3))))
def aH (x h:Str->GF):ES:=(af (am 10 (eV (wk (vv 4) (ac ar (vv 9) (vi 0)) (ac ar (vv 1) (vv 8)))))
  (af (dW (g8 (bV (aC C0 (eV (ac ar (vv 9) (vi 0))) (aa 4))) (oS (bV (lF IC IC (ac ar (vv 9) (vi 1)) (vv 10) (ac ar (vv 9) (vi 2)))))) (aI (eV (vC (.non)))) ff)
  (bN (bj (aa 7) (aa 10)))))
def bE (x h:Str->GF):ES:=(af (am 4 mu)
  (af (cb (iH (ac ar (vv 2) (vi 4))) (aK [ak 5,ak 6]) (eG x h))
  (af (dW (g8 (bV (aC dE (eV (ac ar (vv 2) (vi 3))) (eV (vC (.non))))) (bV (aC pa (eV (ac ar (ac ar (vv 2) (vi 3)) (vi 2))) (eV (vt ""))))) (dI (aa 4) (ac ar (ac ar (vv 2) (vi 3)) (vi 2)) (ac ar (vv 3) (vt "it"))) ff)
  (af (am 7 (cD aN))
  (af (cb (o8 (ac ar (vv 0) (vi 3))) (aK [ak 8,ak 9]) (aH x h))
  (aI (eV (ah bu (v1 (vv 7))))))))))
theorem dh(n:Nat):Ph (n+2) "cells_behind"=cM 4 11 (bE (Ph (n+1)) (Ph n)):=by kernel_rfl
def bx (h x:Str->GF):ES:=(af (dW (uO (bV (aC ni (aa 2) (eV (vC (.non))))) (bV (aC eC (eV (ac ar (vv 2) (vi 3))) (eV (vt ""))))) (aI (aa 1)) ff)
  (aI (eV (ah (pureOf (h "replaced")) (v3 (vv 1) (oW (ac ar (vv 0) (vi 4)) (ac ar (vv 2) (vi 3))) (ac ar (vv 3) (vi 0)))))))
theorem cF(n:Nat):Ph (n+2) "whos_behind"=cM 4 4 (bx (Ph (n+1)) (Ph n)):=by kernel_rfl
def bU (h x:Str->GF):ES:=(af (dW (bV (aC eC (aa 2) (eV (vt "who")))) (aI (eV (aP (v1 (aw (v2 (aw aN) (aP (v1 (ac ar (vv 4) (oW (ac ar (vE (dS (mT Tb h) (aa 0) "family_of" (ae (aa 1) aV))) (vi 4)) (vv 3))))))))))) ff)
  (af (am 5 (dS (mT Tb h) (aa 0) "hands_beside" (ae (aa 1) (ae (aa 3) aV))))
  (af (dW (bV (aC eC (aa 2) (eV (vt "all")))) (aI (eV (aP (v1 (aw (v2 (aw aN) (vv 5))))))) ff)
  (aI (eV (bo (iH (vv 5)) [] 1 (ak 6) ir (aw (v2 (aw (v1 (vv 6))) (aP (v1 (vv 6)))))))))))
theorem dg(n:Nat):Ph (n+2) "targets_of"=cM 5 6 (bU (Ph (n+1)) (Ph n)):=by kernel_rfl
def eL (h x:Str->GF):ES:=(af (am 6 (uf (d6 (aT Att) (aa 0) "places") (v2 (vv 2) (vv 5))))
  (af (dW (uO (bV (aC ni (aa 6) (eV (vC (.non))))) (bV (ac FO (ah mD (v1 (ac ar (vv 4) (vi 1)))) (vi 999)))) (aI (eV (vC (.non)))) ff)
  (af (am 7 (mK (mK (d6 (aT Att) (aa 0) "pairs") (vv 6)) (vi 0)))
  (af (dW (bV (ac ID (eH (eV (ac ar (vv 1) (vv 6)))) (ac ar (vv 7) (vi 3)))) (aI (eV (vC (.non)))) ff)
  (af (am 8 (eV (ac au (ac ar (vv 1) (vv 6)) (aw (v1 (vv 4))))))
  (af (dW (bV (aC eC (eV (ac ar (vv 7) (vi 2))) (eV (vt "heap")))) (am 8 (eV (ah bu (v1 (pL (aa 8)))))) ff)
  (am 1 (eV (ah (pureOf (h "replaced")) (v3 (vv 1) (vv 6) (vv 8)))))))))))
def eX (x h:Str->GF):ES:=(af (cb (iH (vv 3)) (ak 5) (eL x h))
  (aI (aa 1)))
theorem gX(n:Nat):Ph (n+2) "posted"=cM 5 9 (eX (Ph (n+1)) (Ph n)):=by kernel_rfl
def eP (h x:Str->GF):ES:=(af (am 17 (eV (cq (h "posted") (ae (aa 0) (ae (aa 14) (ae (aa 1) (ae (aa 16) (ae (aa 11) aV))))))))
  (dW (bV (aC dE (aa 17) (eV (vC (.non))))) (bN (bj (aa 12) (eV (aw (v2 (ac au (vv 13) (vv 15)) (vv 17)))))) ff))
def eO(h x:Str->GF):ES:=(cb (iH (cq (h "targets_of") (ae (aa 0) (ae (aa 1) (ae (aa 9) (ae (aa 10) (ae (aa 5) aV))))))) (aK [ak 15,ak 16]) (eP h x))
def eN (h x:Str->GF):ES:=(af (am 11 (eV (aw (v2 (vv 7) (ah (pureOf (h "value_of")) (v2 (vv 8) (vv 3)))))))
  (af (am 12 (cD aN))
  (af (cb (iH (vv 6)) (aK [ak 13,ak 14]) (eO h x))
  (am 6 (aa 12)))))
def ei (x h:Str->GF):ES:=(af (am 6 (eV (aP (v1 (aw (v2 (aw aN) (vv 4)))))))
  (af (cb (iH (vv 2)) (aK [ak 7,ak 8,ak 9,ak 10]) (eN x h))
  (aI (aa 6))))
theorem gE(n:Nat):Ph (n+2) "sendings"=cM 6 18 (ei (Ph (n+1)) (Ph n)):=by kernel_rfl
def fM(x h:Str->GF):ES:=(bN (bj (aa 13) (eV (aw (v2 (aw (v5 (vt "step") (vv 2) (ac ar (vv 3) (vi 0)) (vv 4) (vv 14))) (aw (v2 (vv 12) (vv 15))))))))
def bJ (h x:Str->GF):ES:=(af (am 5 (dS (mT Tb h) (aa 0) "family_of" (ae (aa 2) aV)))
  (af (tw (aK [ak 6,ak 7,ak 8]) (ac ar (ac ar (vv 1) (vi 0)) (vv 2)))
  (af (am 9 (eV (ac ar (vv 1) (vi 1))))
  (af (am 10 (gq (h "values_of") (ae (aa 5) (ae (aa 7) aV))))
  (af (dW (bV (aC dE (aa 4) (eV (vC (.non))))) (af (am 11 (vK (d6 (aT Att) (aa 0) "places") (v2 (ac ar (vv 4) (vi 0)) (vv 2))))
  (af (dI (aa 10) (vt "it") (ac ar (ac ar (ac ar (vv 9) (vv 11)) (ac ar (vv 4) (vi 1))) (vi 1)))
  (am 9 (eV (ah (pureOf (h "replaced")) (v3 (vv 9) (vv 11) (ah (pureOf (h "without")) (v2 (ac ar (vv 9) (vv 11)) (ac ar (vv 4) (vi 1)))))))))) ff)
  (af (am 7 (eV (ah (pureOf (h "cells_behind")) (v4 (vv 5) (vv 7) (vv 3) (vv 10)))))
  (af (dW (bV (aC ni (aa 7) (eV (vC (.non))))) (aI (eV (aP aN))) ff)
  (af (am 8 (eV (ah (pureOf (h "whos_behind")) (v4 (vv 5) (vv 8) (ac ar (vv 3) (vi 3)) (vv 4)))))
  (af (am 12 (eV (ah (pureOf (h "replaced")) (v3 (ac ar (vv 1) (vi 0)) (vv 2) (aw (v3 (oW (ac ar (vv 5) (vi 2)) (ac ar (vv 3) (vi 6))) (vv 7) (vv 8)))))))
  (af (am 13 (cD aN))
  (af (cb (iH (cq (h "sendings") (ae (aa 0) (ae (aa 2) (ae (eV (ac ar (vv 3) (vi 5))) (ae (aa 10) (ae (aa 9) (ae (aa 8) aV)))))))) (aK [ak 14,ak 15]) (fM h x))
  (aI (aa 13)))))))))))))
theorem eJ(n:Nat):Ph (n+2) "step_ends"=cM 5 16 (bJ (Ph (n+1)) (Ph n)):=by kernel_rfl
def fQ(h x:Str->GF):ES:=(bN (d_ (aa 8) (cq (h "step_ends") (ae (aa 0) (ae (aa 1) (ae (aa 2) (ae (aa 9) (ae (aa 10) aV))))))))
def dm(h x:Str->GF):ES:=(dW (g8 (bV (aC eC (eV (ac ar (vv 9) (vi 1))) (eV (ac ar (ac ar (vv 3) (vi 2)) (vv 4))))) (bT (eV (ah (pureOf (h "holds")) (v2 (ac ar (vv 9) (vi 2)) (vv 7)))))) (cb (iH (cq (h "takeable") (ae (aa 0) (ae (eV (ac ar (vv 1) (vi 1))) (ae (aa 2) (ae (eV (ac ar (vv 9) (vi 3))) aV)))))) (ak 10) (fQ h x)) ff)
def cR (h x:Str->GF):ES:=(af (am 3 (dS (mT Tb h) (aa 0) "family_of" (ae (aa 2) aV)))
  (af (tw (aK [ak 4,ak 5,ak 6]) (ac ar (ac ar (vv 1) (vi 0)) (vv 2)))
  (af (am 7 (eV (ah (pureOf (h "values_of")) (v2 (vv 3) (vv 5)))))
  (af (am 8 (cD aN))
  (af (cb (iH (ac ar (vv 3) (vi 5))) (ak 9) (dm h x))
  (aI (aa 8)))))))
theorem fV(n:Nat):Ph (n+2) "hand_ends"=cM 3 11 (cR (Ph (n+1)) (Ph n)):=by kernel_rfl
def g6(h x:Str->GF):ES:=(bN (d_ (aa 2) (cq (h "hand_ends") (ae (aa 0) (ae (aa 1) (ae (aa 3) aV))))))
def d8 (h x:Str->GF):ES:=(af (am 2 (cD aN))
  (af (cb (io (eH (d6 (aT Att) (aa 0) "homes"))) (ak 3) (g6 h x))
  (af (bN (d_ (aa 2) (cq (h "flaw_ends") (ae (aa 0) (ae (aa 1) (ae (eV (vt "lose")) aV))))))
  (af (bN (d_ (aa 2) (cq (h "flaw_ends") (ae (aa 0) (ae (aa 1) (ae (eV (vt "double")) aV))))))
  (aI (aa 2))))))
theorem hV(n:Nat):Ph (n+2) "ends_on"=cM 2 4 (d8 (Ph (n+1)) (Ph n)):=by kernel_rfl
def eZ(x h:Str->GF):ES:=(bN (d_ (aa 1) (ac fm (aP (v1 (vv 2))) (ac ar (vv 3) (vi 1)))))
def je (x h:Str->GF):ES:=(af (am 1 (cD aN))
  (af (cb (o8 (ac ar (vv 0) (vi 0))) (aK [ak 2,ak 3]) (eZ x h))
  (aI (aa 1))))
theorem mJ(n:Nat):Ph (n+2) "families_of"=cM 1 4 (je (Ph (n+1)) (Ph n)):=by kernel_rfl
def eQ (x h:Str->GF):ES:=(dW (bV (aC eC (aa 5) (eV (ac ar (vv 3) (vi 0))))) (af (am 6 (eV (bo (io (eH (aa 1))) [] 1 (ak 7) (g8 (bV (aC pa (aa 7) (aa 4))) (bV (aC eC (eV (ac ar (vv 1) (vv 7))) (eV (ac ar (vv 3) (vi 1)))))) (vv 7))))
  (bN (d_ (aa 2) (bo (iH (vv 6)) [] 1 (ak 7) ir (aw (v3 (vv 3) (vv 4) (vv 7))))))) ff)
def jd(x h:Str->GF):ES:=(cb (o8 (vv 1)) (aK [ak 4,ak 5]) (eQ x h))
def lb (h x:Str->GF):ES:=(af (am 1 (eV (bo (iH (ah (pureOf (h "families_of")) (v1 (vv 0)))) [] 1 (ak 7) ir (ac ar (ac ar (ac ar (vv 0) (vi 0)) (vv 7)) (vi 0)))))
  (af (am 2 (cD aN))
  (af (cb (iH (ac ar (vv 0) (vi 1))) (ak 3) (jd h x))
  (aI (aa 2)))))
theorem rX(n:Nat):Ph (n+2) "pairs_of"=cM 1 7 (lb (Ph (n+1)) (Ph n)):=by kernel_rfl
def bZ(h x:Str->GF):ES:=(bN (bj (nj (d6 (aT Att) (aa 0) "members") (ac ar (vE (dS (mT Tb h) (aa 0) "family_of" (ae (aa 4) aV))) (vi 0)) (cD aN)) (aa 4)))
def fH(x h:Str->GF):ES:=(ww (d6 (aT Att) (aa 0) "places") (v2 (ac ar (vv 3) (vi 1)) (ac ar (vv 3) (vi 2))) (vv 2))
def g7 (h x:Str->GF):ES:=(af (kS (aT Att) (aa 0) "families" (eV (ac ar (vv 1) (vi 0))))
  (af (kS (aT Att) (aa 0) "homes" (gq (h "families_of") (ae (aa 1) aV)))
  (af (kS (aT Att) (aa 0) "pairs" (gq (h "pairs_of") (ae (aa 1) aV)))
  (af (kS (aT Att) (aa 0) "places" sf)
  (af (cb (o8 (vE (d6 (aT Att) (aa 0) "pairs"))) (aK [ak 2,ak 3]) (fH h x))
  (af (kS (aT Att) (aa 0) "members" mu)
  (cb (io (eH (d6 (aT Att) (aa 0) "homes"))) (ak 4) (bZ h x))))))))
theorem oD(n:Nat):Ph (n+2) "Board.__init__"=cM 2 5 (g7 (Ph (n+1)) (Ph n)):=by kernel_rfl
def kn(x h:Str->GF):ES:=(aI (eV (cq (x "ends_on") (ae (oG (h "Board.__init__") "Board" (ae (aa 0) aV)) (ae (aa 1) aV)))))
theorem pi(n:Nat):Ph (n+2) "ends_from"=cM 2 2 (kn (Ph (n+1)) (Ph n)):=by kernel_rfl
def eS (x h:Str->GF):ES:=(af (am 2 (eV (ac aO (vv 0) (eH (aa 1)))))
  (af (am 3 (wZ (vv 1)))
  (af (dW (bV (aC eC (eV (ac aO (ac aB (vv 0) (vi 8)) (vi 4))) (eV (vi 0)))) (aI (eV (ah bu (v1 (ac au (jB (vv 3) fZ (fI (vv 2))) (jB (vv 3) (fI (ac au (vv 2) (vi 1))) fZ)))))) ff)
  (af (dW (bV (aC eC (aa 2) (eV (vi 0)))) (dI (aa 3) (vi 0) (ac ar (aP (v4 (vt "step") (vt "lose") (vt "double") (vt "walk"))) (ac aO (ac aB (vv 0) (vi 32)) (vi 4)))) (dW (bT (eV (u4 "str" (mK (aa 3) (vv 2))))) (dI (aa 3) (vv 2) (ac au (vE (mK (aa 3) (vv 2))) (vt "w"))) (dW (bT (eV (u4 "tuple" (mK (aa 3) (vv 2))))) (dI (aa 3) (vv 2) (jB (vE (mK (aa 3) (vv 2))) fZ (fI (yI oO (vi 1))))) (dW (bV (aC ni (mK (aa 3) (vv 2)) (eV (vC (.non))))) (dI (aa 3) (vv 2) (aw (v2 (ac aO (ac aB (vv 0) (vi 32)) (vi 4)) (vi 0)))) (dI (aa 3) (vv 2) (ac au (vE (mK (aa 3) (vv 2))) (ac ar (aP (v4 (vi 1) (yI oO (vi 1)) (yI oO (vi 5)) (ac ye (vi 10) (vi 20)))) (ac aO (ac aB (vv 0) (vi 32)) (vi 4)))))))))
  (aI (eV (ah bu (v1 (vv 3)))))))))
theorem mI(n:Nat):Ph (n+2) "_law_spoiled"=cM 2 4 (eS (Ph (n+1)) (Ph n)):=by kernel_rfl
def dG(x h:Str->GF):ES:=(dW (bV (aC eC (aa 3) (aa 2))) (aI (aa 4)) ff)
def l7 (h x:Str->GF):ES:=(af (cb (iH (cq (h "ends_on") (ae (aa 0) (ae (aa 1) aV)))) (aK [ak 3,ak 4]) (dG h x))
  rj)
theorem x8(n:Nat):Ph (n+2) "do_on"=cM 3 5 (l7 (Ph (n+1)) (Ph n)):=by kernel_rfl
def kA (h x:Str->GF):EX:=(yE (cb (iH (cq (h "ends_on") (ae (aa 0) (ae (aa 1) aV)))) (aK [ak 3,ak 4]) (dG h x)) Cz
  (qX "NoDeed"))
theorem u0(n:Nat):Xh (n+2) "do_on"=jN Rs (fnX 3 5 (kA (Ph (n+1)) (Ph n))):=by kernel_rfl
def v0(x h:Str->GF):ES:=(aI (eV (cq (x "do_on") (ae (oG (h "Board.__init__") "Board" (ae (aa 0) aV)) (ae (aa 1) (ae (aa 2) aV))))))
theorem Av(n:Nat):Ph (n+2) "do"=cM 3 3 (v0 (Ph (n+1)) (Ph n)):=by kernel_rfl
def m7(a h:Str->GF)(x:Str->GX):EX:=(jA (x "do_on") (ae (oG (h "Board.__init__") "Board" (ae (aa 0) aV)) (ae (aa 1) (ae (aa 2) aV))))
theorem AZ(n:Nat):Xh (n+2) "do"=jN Rs (fnX 3 3 (m7 (Ph (n+1)) (Ph n) (Xh (n+1)))):=by kernel_rfl
def i7 (x e:Str->GF) (h:Str->GX):ES:=(af (am 3 (eV (vC (.non))))
  (af (am 4 (eV (vC (.non))))
  (af (vh (am 3 (eV (ah (pureOf (x "do")) (v3 (vv 0) (vv 1) (vv 2))))) (jA (h "do") (ae (aa 0) (ae (aa 1) (ae (aa 2) aV)))) (fun c=>Rs.contains c && (nl.lookup c).any fun a=>a.contains "RoadError") 5 (am 4 (aa 5)))
  (af (dW (bV (aC ni (aa 4) (eV (vC (.non))))) (aI (eV (aw (v2 (vt "told") (vv 3))))) ff)
  (af (dW (uO (bT (eV (j' (gB nl Rs "NoPlan") (aa 4)))) (uO (bT (eV (j' (gB nl Rs "NotPossible") (aa 4)))) (bT (eV (j' (gB nl Rs "NoText") (aa 4)))))) (aI (eV (aw (v2 (vt "wrong") (vC (.non)))))) ff)
  (af (dW (uO (bT (eV (j' (gB nl Rs "TooMany") (aa 4)))) (uO (oS (bT (eV (j' (gB nl Rs "NoDeed") (aa 4))))) (oS (bT (eV (j' (gB nl Rs "ValueError") (aa 4))))))) (aI (eV (aw (v2 (vt "wrong") (vC (.non)))))) ff)
  (aI (eV (aw (v2 (vt "refused") (vC (.non))))))))))))
theorem rY(n:Nat):Ph (n+2) "_law_told"=cM 3 6 (i7 (Ph (n+1)) (Ph n) (Xh (n+1))):=by kernel_rfl
def i_(h x:Str->GF):ES:=(bN (bj (aa 4) (eV (ah (pureOf (h "_law_spoiled")) (v2 (ah (pureOf (h "_law_mix")) (v2 (ah (pureOf (h "_law_cell_at")) (v2 (vv 0) (ac au (vi 55) (ac aO (vv 5) (vi 8))))) (ac au (vi 40) (vv 5)))) (ac ar (vv 6) (vi 0)))))))
def i9 (h x:Str->GF):ES:=(af (am 9 (eV (bo (iH (vv 3)) [] 2 (aK [ak 11,ak 12]) (bV (aC eC (aa 11) (aa 8))) (vv 12))))
  (af (am 10 (eV (aw (v2 (vt "refused") (vC (.non))))))
  (af (dW (bV (aC pa (aa 9) (eV (aP aN)))) (am 10 (eV (aw (v2 (vt "told") (ac ar (vv 9) (vi 0)))))) ff)
  (dW (uO (bV (aC pa (eV (ah (pureOf (h "_law_told")) (v3 (vv 7) (vv 2) (vv 8)))) (aa 10))) (bV (aC pa (aa 7) (aa 1)))) (aI (eV (vC (.bl false)))) ff))))
def sQ (h x:Str->GF):ES:=(af (am 1 (eV (ah (pureOf (h "_law_plan")) (v2 (vv 0) (vi 3)))))
  (af (am 2 (eV (ah (pureOf (h "_law_standing")) (v2 (vv 0) (vv 1)))))
  (af (am 3 (eV (ah (pureOf (h "ends_from")) (v2 (vv 1) (vv 2)))))
  (af (am 4 (cD (v5 (aw aN) (aw (v1 (vt "step"))) (aw (v4 (vt "lose") (vi 0) (vi 0) (vi 0))) (aw (v4 (vt "double") (yI oO (vi 1)) (vi 0) (vi 0))) (aw (v5 (vt "step") (vi 0) (vt "") (vC (.non)) (aw aN))))))
  (af (cb (o8 (jB (vv 3) fZ (fI (vi 12)))) (aK [ak 5,ak 6]) (i_ h x))
  (af (am 7 (eV (aw (v3 (ah iq (v1 (ac ar (vv 1) (vi 0)))) (ah iq (v1 (ac ar (vv 1) (vi 1)))) (ah iq (v1 (ac ar (vv 1) (vi 2))))))))
  (af (cb (iH (vv 4)) (ak 8) (i9 h x))
  (aI (eV (vC (.bl true)))))))))))
theorem Ce(n:Nat):Ph (n+2) "law"=cM 1 11 (sQ (Ph (n+1)) (Ph n)):=by kernel_rfl
variable{a:Type}{m:List a}
theorem FC(h:m.length=n+1):∃a r,m=a::r/\r.length=n:=by
 cases m with
 |nil=>cases h
 |cons a r=>exact⟨a,r,rfl,Nat.succ.inj h⟩
theorem LK(h:m.length=1):∃a,m=[a]:=by obtain⟨a,r,rfl,x⟩:=FC h;exact⟨a,by rw[lB x]⟩
theorem Jr(h:m.length=2):∃a b,m=[a,b]:=by obtain⟨a,r,rfl,x⟩:=FC h;obtain⟨b,rfl⟩:=LK x;exact⟨a,b,rfl⟩
theorem K2(h:m.length=3):∃a b c,m=[a,b,c]:=by obtain⟨a,r,rfl,x⟩:=FC h;obtain⟨b,c,rfl⟩:=Jr x;exact⟨a,b,c,rfl⟩
theorem LJ(h:m.length=4):∃a b c d,m=[a,b,c,d]:=by obtain⟨a,r,rfl,x⟩:=FC h;obtain⟨b,c,d,rfl⟩:=K2 x;exact⟨a,b,c,d,rfl⟩
theorem LI(h:m.length=5):∃a b c d e,m=[a,b,c,d,e]:=by obtain⟨a,r,rfl,x⟩:=FC h;obtain⟨b,c,d,e,rfl⟩:=LJ x;exact⟨a,b,c,d,e,rfl⟩
theorem Mv(h:m.length=6):∃a b c d e g,m=[a,b,c,d,e,g]:=by obtain⟨a,r,rfl,x⟩:=FC h;obtain⟨b,c,d,e,g,rfl⟩:=LI x;exact⟨a,b,c,d,e,g,rfl⟩
theorem sc:Tb.all Jg=true:=by decide +kernel
theorem un:(Tb.map (·.name)).Nodup:=by decide +kernel
theorem E5{K:FG}{h:Heap}{mg:SV}(X:K.In h)(G:h.Ns mainGlobals mg){E0 j l E o H:Addr}
  (n:PySem.W.nsIn K mainGlobals "RoadError"=some (some (.ref E0))) (F:PySem.W.kitOne K (.type "NoneType") (.ref E0)=some false)
  (k:PySem.W.nsIn K mainGlobals "NoText"=some (some (.ref j))) (P:PySem.W.kitOne K (.type "NoneType") (.ref j)=some false)
  (f:PySem.W.nsIn K mainGlobals "NoPlan"=some (some (.ref l))) (A:PySem.W.kitOne K (.type "NoneType") (.ref l)=some false)
  (s:PySem.W.nsIn K mainGlobals "NoDeed"=some (some (.ref E))) (B:PySem.W.kitOne K (.type "NoneType") (.ref E)=some false)
  (b:PySem.W.nsIn K mainGlobals "NotPossible"=some (some (.ref o))) (D:PySem.W.kitOne K (.type "NoneType") (.ref o)=some false)
  (m:PySem.W.nsIn K mainGlobals "TooMany"=some (some (.ref H))) (I:PySem.W.kitOne K (.type "NoneType") (.ref H)=some false)
  (ev:PySem.W.nsIn K mainGlobals "ValueError"=some none) (J:PySem.W.kitOne K (.type "NoneType") (.type "ValueError")=some false)
  (V:PySem.W.findIn K (.ref E) "__getattribute__"=some (some (.builtin "BaseException.__getattribute__"))) (W:PySem.W.findIn K (.ref E) "__getattr__"=some none) (U:PySem.W.mroIn K E (.type "BaseException")=some true) (O:PySem.W.findIn K (.ref E) "__class__"=some (some (.builtin "object.__class__"))) (N:PySem.W.specialIn K (.builtin "object.__class__") "__get__"=some (some (.builtin "getset_descriptor.__get__"))) (Q:PySem.W.takesIn K (.builtin "object.__class__")=some true) (Z:PySem.W.mroIn K E (.type "object")=some true) (Y:(PySem.W.clsIn K E).isSome=true) (xs3:PySem.W.kitCls K (.ref E) (.ref E)=some true) (xv3:PySem.W.kitOne K (.ref E) (.type "ValueError")=some true) (xr3:Lv K E)
  (p:PySem.W.kitOne K (.ref E) (.ref E0)=some true)
  (g:PySem.W.exmOne K (.ref E) (.ref E0)=some true)
  (q:PySem.W.kitOne K (.ref E) (.ref j)=some false)
  (v:PySem.W.kitOne K (.ref E) (.ref l)=some false)
  (d:PySem.W.kitOne K (.ref E) (.ref E)=some true)
  (i:PySem.W.exmOne K (.ref E) (.ref E)=some true)
  (w:PySem.W.kitOne K (.ref E) (.ref o)=some false)
  (u:PySem.W.kitOne K (.ref E) (.ref H)=some false)
  : ExsOk K mg nl Rs:=by
 have y:∀c:Str,(nl.any λx=>decide (x.1=c))=true->c=("RoadError":Str)\/c=("NoText":Str)\/c=("NoPlan":Str)\/c=("NoDeed":Str)\/c=("NotPossible":Str)\/c=("TooMany":Str):=λc a=>by
  simp only[nl,ig,List.any_nil,Bool.or_false,jv,qR]at a;rcases a with a|a|a|a|a|a
  .exact .inl a.symm
  .exact .inr (.inl a.symm)
  .exact .inr (.inr (.inl a.symm))
  .exact .inr (.inr (.inr (.inl a.symm)))
  .exact .inr (.inr (.inr (.inr (.inl a.symm))))
  .exact .inr (.inr (.inr (.inr (.inr (a.symm)))))
 have r:∀c:Str,Rs.contains c=true->c=("NoDeed":Str):=λc a=>by simpa[Rs] using a
 refine⟨λc a=>?_,PySem.W.mg_none_of X G ev,λt C L e=>?_,J,λc S C R ea M=>?_,λc R=>?_,λc C R M=>?_⟩
 .rcases y c a with rfl|rfl|rfl|rfl|rfl|rfl
  .exact⟨_,n,cP X G n⟩
  .exact⟨_,k,cP X G k⟩
  .exact⟨_,f,cP X G f⟩
  .exact⟨_,s,cP X G s⟩
  .exact⟨_,b,cP X G b⟩
  .exact⟨_,m,cP X G m⟩
 .rcases y t L with rfl|rfl|rfl|rfl|rfl|rfl
  .cases (cP X G n).symm.trans e;exact F
  .cases (cP X G k).symm.trans e;exact P
  .cases (cP X G f).symm.trans e;exact A
  .cases (cP X G s).symm.trans e;exact B
  .cases (cP X G b).symm.trans e;exact D
  .cases (cP X G m).symm.trans e;exact I
 .rcases r c R with rfl
  .cases s.symm.trans M;cases (show some (["NoDeed","RoadError","ValueError"]:LS)=some S from ea);refine⟨⟨V,W,O,N,Q,Z,U,Y⟩,xs3,xv3,λt T L e=>?_⟩;rcases y t L with rfl|rfl|rfl|rfl|rfl|rfl
   .cases (cP X G n).symm.trans e;exact⟨p,λ_=>g⟩
   .cases (cP X G k).symm.trans e;exact⟨q,λz=>nomatch z⟩
   .cases (cP X G f).symm.trans e;exact⟨v,λz=>nomatch z⟩
   .cases (cP X G s).symm.trans e;exact⟨d,λ_=>i⟩
   .cases (cP X G b).symm.trans e;exact⟨w,λz=>nomatch z⟩
   .cases (cP X G m).symm.trans e;exact⟨u,λz=>nomatch z⟩
 .rcases r c R with rfl<;>decide +kernel
 .rcases r c R with rfl
  .cases s.symm.trans M;exact⟨cP X G s,xr3⟩
def Fn(K:FG)(t:Nat)(x:Str):Prop:=∃(f:Addr)(o:Value)(e:Option Addr)(kV d p:Value)(a:Option Addr)(c h:Value)(s:Array (OV)),PySem.W.nsIn K mainGlobals x=some (some (.ref f))/\K.lookup f=some ⟨o,e,.func (PySem.W.fnOf x x (gI (eE t)) (cW (eE t)) (aF (eE t)) .none kV d p a c h),s⟩/\PySem.W.codeIn K c x=true/\PySem.W.keepIn K (.ref f)=true
variable{x:Str}
theorem dk(X:K.In h)(G:h.Ns mainGlobals g)(H:Fn K t x)
  (b:∀(kV o p:Value)(n:Option Addr)(d e:Value)(m:LV),m.length=ps.length->bindArgs (PySem.W.fnOf x x (gI (eE t)) (cW (eE t)) (aF (eE t)) .none kV o p n d e) ⟨m,[]⟩=pure (ps.zip m)):∃f s,DOk K g ⟨x,x,"",eE t,N,ps,i,w,j⟩ f s:=by
 obtain⟨f,v,u,kV,q,p,n,r,e,y,a,l,c,k⟩:=H;exact⟨_,_,⟨jO l c k,(jO l c k).binds b,λ_=>cP X G a,λh=>absurd (show("":Str).cps.isEmpty=false from h) (by decide +kernel)⟩⟩
def Gi(K:FG)(x:Str)(i:Int):Prop:=∃t,PySem.W.nsIn K mainGlobals x=some (some (.int i t))
theorem Ii(X:K.In h)(G:h.Ns mainGlobals g){i:Int}(H:Gi K x i):lj w K g x (.int i):=by obtain⟨t,a⟩:=H;exact .plain ⟨_,.int i,cP X G a,⟨_,rfl⟩,λ_ _=>rfl⟩ rfl
open PySem.W in
theorem Fm{w:World}{K:Frag}{h:Heap}{mg:SV}(X:K.In h)(G:h.Ns mainGlobals mg)
  {C:Addr}
  {r t p:Addr}{od21 A od26 B od38 D:Option Addr}{sl21 sl26 sl38:Array (OV)}{oc21 V O pm21 q L oc26 W Q pm26 u M oc38 Y R pm38 g N:Value}
  (s:nsIn K mainGlobals "Board"=some (some (.ref C))) (b:plainGet K C Str.empty=true) (n:hasDictIn K C=true) (a:plainOver K C=true) (k:findIn K (.ref C) "__setattr__"=some (some (.builtin "object.__setattr__"))) (cf0:makesIn K C=true) (cg0:keepIn K (.ref C)=true)
  (o:findIn K (.ref C) "families"=some none)
  (H:findIn K (.ref C) "homes"=some none)
  (S:findIn K (.ref C) "members"=some none)
  (F:findIn K (.ref C) "pairs"=some none)
  (P:findIn K (.ref C) "places"=some none)
  (h0:Fn K 36 "_law_cell_at") (h1:Fn K 37 "_law_mix") (h2:Fn K 42 "_law_roads") (h3:Fn K 38 "_law_name") (h4:Fn K 39 "_law_cells") (h5:Fn K 40 "_law_sum") (h6:Fn K 43 "_law_sends") (h7:Fn K 41 "_law_condition") (h8:Fn K 44 "_law_step") (h9:Fn K 45 "_law_family") (h10:Fn K 46 "_law_plan") (h11:Fn K 47 "_law_families") (h12:Fn K 48 "_law_crew") (h13:Fn K 49 "_law_pairs") (h14:Fn K 50 "_law_standing") (h15:Fn K 31 "has_flaw") (h16:Fn K 23 "unlike_spots") (h17:Fn K 34 "replaced") (h18:Fn K 33 "without") (h19:Fn K 32 "flawed") (h20:Fn K 30 "flaw_ends") (h22:Fn K 21 "values_of") (h23:Fn K 10 "compared") (h24:Fn K 8 "value_of") (h25:Fn K 9 "holds") (h27:Fn K 22 "takeable") (h28:Fn K 25 "cells_behind") (h29:Fn K 26 "whos_behind") (h30:Fn K 28 "targets_of") (h31:Fn K 29 "posted") (h32:Fn K 27 "sendings") (h33:Fn K 24 "step_ends") (h34:Fn K 20 "hand_ends") (h35:Fn K 19 "ends_on") (h36:Fn K 14 "families_of") (h37:Fn K 15 "pairs_of") (h39:Fn K 18 "ends_from") (h40:Fn K 52 "_law_spoiled") (h41:Fn K 17 "do_on") (h42:Fn K 16 "do") (h43:Fn K 51 "_law_told") (h44:Fn K 53 "law")
  (a21:findIn K (.ref C) "family_of"=some (some (.ref r))) (w21:isFn K (.ref r)=true)
  (Z:K.lookup r=some ⟨oc21,od21,.func (fnOf "family_of" "Board.family_of" (gI (L2.cA (eE 13) 1)) (cW (L2.cA (eE 13) 1)) (aF (L2.cA (eE 13) 1)) .none V O pm21 A q L),sl21⟩) (E:codeIn K q "Board.family_of"=true) (j:keepIn K (.ref r)=true)
  (a26:findIn K (.ref C) "hands_beside"=some (some (.ref t))) (w26:isFn K (.ref t)=true)
  (l26:K.lookup t=some ⟨oc26,od26,.func (fnOf "hands_beside" "Board.hands_beside" (gI (L2.cA (eE 13) 2)) (cW (L2.cA (eE 13) 2)) (aF (L2.cA (eE 13) 2)) .none W Q pm26 B u M),sl26⟩) (I:codeIn K u "Board.hands_beside"=true) (y:keepIn K (.ref t)=true)
  (a38:findIn K (.ref C) "__init__"=some (some (.ref p))) (w38:isFn K (.ref p)=true)
  (l38:K.lookup p=some ⟨oc38,od38,.func (fnOf "__init__" "Board.__init__" (gI (L2.cA (eE 13) 0)) (cW (L2.cA (eE 13) 0)) (aF (L2.cA (eE 13) 0)) .none Y R pm38 D g N),sl38⟩) (J:codeIn K g "Board.__init__"=true) (U:keepIn K (.ref p)=true)
  (g0:Gi K "HIGHEST_LETTER" 999)
  (z:∀x ∈ Cq,nsIn K mainGlobals x=some none)
  (hex:ExsOk K mg nl Rs)
  : TOk w Gv Att nl Rs Tb K mg:=by
 refine⟨hex,λd hd=>?_,sc,un,λx i=>mg_none_of X G (z x i),λx v T=>?_,λc f hc=>?_⟩
 .simp only[Tb,ba,dB,du]at hd;rcases hd with rfl|rfl|rfl|rfl|rfl|rfl|rfl|rfl|rfl|rfl|rfl|rfl|rfl|rfl|rfl|rfl|rfl|rfl|rfl|rfl|rfl|rfl|rfl|rfl|rfl|rfl|rfl|rfl|rfl|rfl|rfl|rfl|rfl|rfl|rfl|rfl|rfl|rfl|rfl|rfl|rfl|rfl|rfl|rfl|rfl;all_goals first
   |exact⟨_,_,⟨jO (st:=(L2.cA (eE 13) 1)) Z E j,(jO (st:=(L2.cA (eE 13) 1)) Z E j).binds (ps:=["self","hand"]) λ_ _ _ _ _ _ m l=>by obtain⟨_,_,rfl⟩:=Jr l;rfl,λh=>absurd h (by decide +kernel),λ_=>⟨_,s,mg_of X G s,⟨b,n,a,k⟩,λh=>absurd h (by decide +kernel),λ_=>⟨a21,w21,j⟩⟩⟩⟩
   |exact⟨_,_,⟨jO (st:=(L2.cA (eE 13) 2)) l26 I y,(jO (st:=(L2.cA (eE 13) 2)) l26 I y).binds (ps:=["self","hand","name"]) λ_ _ _ _ _ _ m l=>by obtain⟨_,_,_,rfl⟩:=K2 l;rfl,λh=>absurd h (by decide +kernel),λ_=>⟨_,s,mg_of X G s,⟨b,n,a,k⟩,λh=>absurd h (by decide +kernel),λ_=>⟨a26,w26,y⟩⟩⟩⟩
   |exact⟨_,_,⟨jO (st:=(L2.cA (eE 13) 0)) l38 J U,(jO (st:=(L2.cA (eE 13) 0)) l38 J U).binds (ps:=["self","plan"]) λ_ _ _ _ _ _ m l=>by obtain⟨_,_,rfl⟩:=Jr l;rfl,λh=>absurd h (by decide +kernel),λ_=>⟨_,s,mg_of X G s,⟨b,n,a,k⟩,λ_=>⟨cf0,a38,w38,cg0⟩,λh=>absurd rfl h⟩⟩⟩
   |exact dk X G (by assumption) λ_ _ _ _ _ _ m l=>by first|(obtain⟨_,rfl⟩:=LK l;rfl)|(obtain⟨_,_,rfl⟩:=Jr l;rfl)|(obtain⟨_,_,_,rfl⟩:=K2 l;rfl)|(obtain⟨_,_,_,_,rfl⟩:=LJ l;rfl)|(obtain⟨_,_,_,_,_,rfl⟩:=LI l;rfl)|(obtain⟨_,_,_,_,_,_,rfl⟩:=Mv l;rfl)
 .unfold Gv at T;by_cases e:x=("HIGHEST_LETTER":Str)
  .rw [if_pos e]at T;subst e;cases T;exact Ii X G g0
  rw[if_neg e]at T;clear e;cases T
 .obtain⟨x,i,e⟩:=nu.mp hc;rw[Bool.and_eq_true]at e;have e1:=aS e.1;have e2:f ∈ x.2:=by simpa using e.2
  subst e1;rcases ba.mp i with i|i
  .subst i;simp only[ba,dB,du]at e2;rcases e2 with rfl|rfl|rfl|rfl|rfl
   .exact⟨_,s,⟨b,n,a,k⟩,o⟩
   .exact⟨_,s,⟨b,n,a,k⟩,H⟩
   .exact⟨_,s,⟨b,n,a,k⟩,S⟩
   .exact⟨_,s,⟨b,n,a,k⟩,F⟩
   .exact⟨_,s,⟨b,n,a,k⟩,P⟩
  cases i
theorem log2_small{i:Int}(h:i.natAbs < 2 ^ 60):i.natAbs.log2 < 60:=by
 by_cases e:i.natAbs=0
 .rw [e];decide
 .exact (Nat.log2_lt e).mpr h
theorem bw{i j:Int}(h:i.natAbs < 2 ^ 60)(x:j.natAbs < 2 ^ 60):fJ i j=true:=by unfold fJ;have a:=log2_small h;have b:=log2_small x;exact ju (by lia)
theorem Ej:∀(n:Nat)(v:P),bC n v=true->bC (n+1) v=true:=by
 intro n;induction n with
 |zero=>intro v h;cases v<;>first|rfl|exact h|cases h
 |succ n i=>
  intro v h;cases v with
  |tup s=>exact bc.mpr λx a=>i x (bc.mp h x a)
  |lst s=>exact bc.mpr λx a=>i x (bc.mp h x a)
  |ro s=>exact bc.mpr λx a=>i x (bc.mp h x a)
  |non=>rfl
  |bl _=>rfl
  |int _=>rfl
  |str _=>exact h
  |dct _ _=>cases h
variable{v:P}
theorem cc(h:bC n v=true)(m:n≤e):bC e v=true:=by
 obtain⟨k,rfl⟩:=Nat.exists_eq_add_of_le m;clear m;induction k with
 |zero=>exact h
 |succ k i=>exact Ej _ _ i
def strOk(x:Str):Prop:=PyData.strOk x=true
@[simp] theorem BP(n:Nat)(i:Int):bC n (.int i)=true:=by cases n<;>rfl
@[simp] theorem KU(n:Nat)(i:Bool):bC n (.bl i)=true:=by cases n<;>rfl
@[simp] theorem Jl(n:Nat):bC n .non=true:=by cases n<;>rfl
@[simp] theorem wG(n:Nat)(x:Str):bC n (.str x)=PyData.strOk x:=by cases n<;>rfl
@[simp] theorem Jk(n:Nat)(s:List P):bC (n+1) (.tup s)=s.all (bC n):=rfl
@[simp] theorem Jm(n:Nat)(s:List P):bC (n+1) (.lst s)=s.all (bC n):=rfl
theorem BQ(h:∀x ∈ s,bC n x=true):bC (n+1) (.lst s)=true:=bc.mpr h
@[simp] theorem rS(c:Nat):Str.length ⟨#[c]⟩=1:=rfl
theorem pP(h:strOk x)(a:strOk y):strOk (x++y):=by show(x.cps++y.cps).all (λc=>decide (c < 0x110000))=true;rw[Array.all_append,Bool.and_eq_true];exact⟨h,a⟩
theorem xz(e:strOk x)(n:Nat):strOk (dC x n):=by
 have k:∀(n:Nat)(a:Array Nat),a.all (λc=>decide (c < 0x110000))=true->((List.replicate n x.cps).foldl (·++·) a).all (λc=>decide (c < 0x110000))=true:=by
  intro n;induction n with
  |zero=>intro a h;exact h
  |succ n i=>intro a h;rw[gh,iM];exact i _ (by rw[Array.all_append,Bool.and_eq_true];exact⟨h,e⟩)
 exact k n #[] (by simp)
variable{k:Int}
theorem AE(f:strOk x)(a:0≤k)(s:k < x.length)(n:x.length≤1000000):∃c,strOk ⟨#[c]⟩/\ar (.str x) (.int k)=some (.str ⟨#[c]⟩):=by
 have l:k.toNat < x.cps.toList.length:=by simp only[nz];unfold Str.length at s;lia
 have h:k.toNat < x.cps.size:=by simpa using l
 refine⟨x.cps.toList[k.toNat],?_,?_⟩
 .have:=Array.all_eq_true.mp f k.toNat h;show(#[x.cps.toList[k.toNat]].all λc=>decide (c < 0x110000))=true;simpa using this
 .have e:L2.atI x.cps.toList k=some (x.cps.toList[k.toNat]):=aY a (by simp[h]);show(if iC x.length=true then (L2.atI x.cps.toList k).map λc=>P.str ⟨#[c]⟩ else none)=_;rw[if_pos (by simp only[la];exact n),e];rfl
theorem qg(h:x.length+y.length≤1000000):sK (.str x) (.str y)=some (.str (x++y)):=by show(if iC (x.length+y.length)=true then some (P.str (x++y)) else none)=_;rw[if_pos (by rw[la];exact h)]
variable{s:List a}
theorem dL(h:s≠[])(a:Int):∃x ∈ s,L2.atI s (a % (s.length:Int))=some x:=by
 have l:(0:Int) < (s.length:Int):=by cases s with|nil=>exact absurd rfl h|cons _ _=>simp
 have e:=dw a (Int.ne_of_gt l);have n:=d5 a l;have k:(a % (s.length:Int)).toNat < s.length:=by lia
 exact⟨s[(a % (s.length:Int)).toNat],gc _,aY e (by simp[k])⟩
theorem v9(h:0≤k)(e:k < (s.length:Int)):∃x ∈ s,L2.atI s k=some x:=by
 have a:k.toNat < s.length:=by lia
 exact⟨s[k.toNat],gc _,aY h (by simp[a])⟩
theorem atI_last(h:s≠[]):∃x ∈ s,L2.atI s (-1)=some x:=by
 have l:0 < s.length:=List.length_pos_iff.mpr h;refine⟨s[s.length-1],gc _,?_⟩;unfold L2.atI L2.vw;rw[if_neg (by lia),if_pos (by lia)];have e:(-1+(s.length:Int)).toNat=s.length-1:=by lia
 simp[e,l]
theorem bf{g:jf}{b:ES}{Inv:Nat->Lc->aD->Prop}:∀{s:List P}{k:Nat}{L:Lc}{S:aD},(∀i v L S,s[i]? = some v->Inv (k+i) L S->∃f L2 n,g v L=some f/\b f S=some (.nx,L2,n)/\Inv (k+i+1) L2 n)->Inv k L S ->
  ∃x a,aR g b s L S=some (.nx,x,a)/\Inv (k+s.length) x a
 | [],k,L,S,_,h=>⟨L,S,rfl,h⟩
 |v::r,k,L,S,c,h=>by
  obtain⟨f,L2,n,m,t,d⟩:=c 0 v L S rfl h;obtain⟨x,a,p,u⟩:=bf (g:=g) (b:=b) (Inv:=Inv) (s:=r) (k:=k+1) (L:=L2) (S:=n) (λi w L S e q=>by have:=c (i+1) w L S (by simpa using e) (by rw[show k+(i+1)=k+1+i by lia];exact q);rwa [show k+(i+1)+1=k+1+i+1 by lia]at this) d
  exact⟨x,a,by rw[bR m t];exact p,by rw[bt,show k+(r.length+1)=k+1+r.length by lia];exact u⟩
theorem j5{g:jf}{c:EB}{e:EV}{Inv:Lc->Prop}{Q:P->Prop}{S:aD}:∀{s:List P}{L:Lc},(∀v ∈ s,∀L,Inv L->∃x k,g v L=some x/\Inv x/\c x S=some (k,S)/\(k=true->∃y,e x S=some (y,S)/\Q y))->Inv L ->
  ∃a,bA g c e s L S=some (a,S)/\(∀y ∈ a,Q y)/\a.length≤s.length
 | [],L,_,h=>⟨[],rfl,λ_ z=>(by cases z),Nat.le_refl _⟩
 |v::r,L,t,h=>by
  obtain⟨x,k,n,i,f,d⟩:=t v List.mem_cons_self L h;obtain⟨a,b,m,j⟩:=j5 (s:=r) (L:=x) (λw hw=>t w (a6 _ hw)) i;cases k with
  |false=>exact⟨a,by simp[bA,n,f,b],m,by simp;lia⟩
  |true=>obtain⟨y,p,q⟩:=d rfl;exact⟨y::a,by simp[bA,n,f,b,p],λz u=>(ba.mp u).elim (λe=>e ▸ q) (m z),by simp;lia⟩
theorem kJ{g:jf}{e:EV}{Inv:Lc->Prop}{Q:P->Prop}{S:aD}:∀{s:List P}{L:Lc},(∀v ∈ s,∀L,Inv L->∃x y,g v L=some x/\Inv x/\e x S=some (y,S)/\Q y)->Inv L ->
  ∃a,bA g ir e s L S=some (a,S)/\(∀y ∈ a,Q y)/\a.length=s.length
 | [],L,_,h=>⟨[],rfl,λ_ z=>(by cases z),rfl⟩
 |v::r,L,n,h=>by obtain⟨x,y,k,i,f,q⟩:=n v List.mem_cons_self L h;obtain⟨a,b,c,m⟩:=kJ (s:=r) (L:=x) (λw hw=>n w (a6 _ hw)) i;exact⟨y::a,by simp[bA,k,f,b],λz t=>(ba.mp t).elim (λe=>e ▸ q) (c z),by simp[m]⟩
theorem di{g:jf}{c:EB}{e:EV}{Inv:Lc->Prop}{S:aD}{p:P->Bool}{f:P->P}:∀{s:List P}{L:Lc},(∀v ∈ s,∀L,Inv L->∃x,g v L=some x/\Inv x/\c x S=some (p v,S)/\(p v=true->e x S=some (f v,S)))->Inv L ->
  bA g c e s L S=some ((s.filter p).map f,S)
 | [],L,_,h=>rfl
 |v::r,L,m,h=>by
  obtain⟨x,n,i,a,t⟩:=m v List.mem_cons_self L h;have b:=di (s:=r) (L:=x) (λw hw=>m w (a6 _ hw)) i;cases k:p v with
  |false=>rw[k]at a;simp[bA,n,a,b,k]
  |true=>rw[k]at a;simp[bA,n,a,b,k,t k]
theorem ints_get{lo:Int}{n i:Nat}{v:P}(h:(intsFrom lo n)[i]? = some v):v=.int (lo+i)/\i < n:=by
 unfold Ev.intsFrom at h;rw[List.getElem?_map]at h;cases e:(List.range n)[i]? with
 |none=>rw[e]at h;cases h
 |some j=>
  rw[e]at h;cases h;have:=List.getElem?_eq_some_iff.mp e
  obtain⟨x,a⟩:=this;simp at x a;subst a;exact⟨rfl,x⟩
theorem f6{lo:Int}{n:Nat}{v:P}(h:v ∈ intsFrom lo n):∃i:Nat,v=.int (lo+i)/\i < n:=by obtain⟨i,x,e⟩:=nB.mp h;exact⟨i,ints_get (by rw[dY x,e])⟩
theorem br(lo:Int)(n:Nat):(intsFrom lo n).length=n:=by simp[Ev.intsFrom]
theorem zL(k n:Str->GF)(s:List P):∀(a:Int)(p t q:Option D),∃(r:Int)(e:Option D),aR (ak 2) (gZ k n) s [qi a,p,t,q] []=some (.nx,[qi r,p,e,q],[]):=by
 induction s with
 |nil=>intro a p t q;exact⟨a,t,rfl⟩
 |cons x s i=>intro a p t q;obtain⟨r,e,h⟩:=i (a / 2147483648) p (qp x) q;exact⟨r,e,by simpa[aR,gZ] using h⟩
theorem rM(i:2≤n)(a:Int){p:Int}(s:0≤p)(k:p < 1000):∃r:Int,0≤r/\pureOf (Ph n "_law_mix") [.int a,.int p]=some (.int r):=by
 obtain⟨n,rfl⟩:=gp (n:=n) (by first|assumption|lia);by_cases h:(1000000000000:Int)≤a
 .obtain⟨r,j,e⟩:=zL (Ph (n+1)) (Ph n) (intsFrom 0 (p % 61).toNat) (a / 1000000000000-1) (qi p) none none;refine⟨r % 2147483648,dw _ (by decide),?_⟩;have c:(p % 61).natAbs < 1000000:=by lia
  rw[ms,aj];simp[jU,h,c,e]
 .have m:0≤p * p/\p * p≤1000000:=⟨Int.mul_nonneg s s,Int.le_trans (Int.mul_le_mul (Int.le_of_lt k) (Int.le_of_lt k) s (by decide)) (by decide)⟩;have v:fJ p p=true:=bw (by lia) (by lia);have d:fJ (p * p) 7919=true:=bw (by lia) (by decide);have w:fJ (a % 1000003+p * p * 7919+p) 48271=true:=bw (by lia) (by decide);generalize f:(a % 1000003+p * p * 7919+p) * 48271 % 2147483629=x;have t:0≤x/\x < 2147483629:=by subst f;exact⟨dw _ (by decide),d5 _ (by decide)⟩
  have u:fJ x x=true:=bw (by lia) (by lia);generalize b:x * x % 2147483587=y;have q:0≤y/\y < 2147483587:=by subst b;exact⟨dw _ (by decide),d5 _ (by decide)⟩
  have g:fJ y (y+2)=true:=bw (by lia) (by lia);refine⟨y * (y+2) % 2147483579 / 7,Int.ediv_nonneg (dw _ (by decide)) (by decide),?_⟩;rw[ms,aj];simp[jU,h,v,d,w,f,u,b,g]
noncomputable def cL(n:List Int):P:=.ro (n.map .int)
theorem sL(f:2≤n)(s:List Int)(x:0≤k):∃r:Int,pureOf (Ph n "_law_cell_at") [cL s,.int k]=some (.int r):=by
 obtain⟨n,rfl⟩:=gp (n:=n) (by first|assumption|lia);by_cases h:k < (s.length:Int)
 .have a:k.toNat < s.length:=by lia
  refine⟨s[k.toNat],?_⟩;have e:L2.atI (s.map P.int) k=some (.int s[k.toNat]):=aY x (by simp[a]);rw[jc,aj];simp[gA,cL,cB,dq,h,e]
 .refine⟨0,?_⟩;rw[jc,aj];simp[gA,cL,cB,dq,h]
theorem gH{n:Nat}(h:2≤n)(s:List Int){k p:Int}(a:0≤k)(f:0≤p)(b:p < 1000):∃c r:Int,0≤r/\pureOf (Ph n "_law_cell_at") [cL s,.int k]=some (.int c)/\pureOf (Ph n "_law_mix") [.int c,.int p]=some (.int r):=by obtain⟨c,e⟩:=sL h s a;obtain⟨r,m,x⟩:=rM h c f b;exact⟨c,r,m,e,x⟩
theorem Ei:strOk "xyz":=by unfold strOk;decide +kernel
theorem wN:("xyz":Str).length=3:=by decide +kernel
theorem IQ:∀k:Nat,k < 16->ar (.str "abcdefghijklmnop") (.int (k:Int))=some (.str ⟨#[97+k]⟩):=by
 intro k h;have e:∀k:Nat,k < 16->L2.atI ((("abcdefghijklmnop":Str)).cps.toList) (k:Int)=some (97+k):=by decide +kernel
 show(if iC (("abcdefghijklmnop":Str)).length=true then (L2.atI ((("abcdefghijklmnop":Str)).cps.toList) (k:Int)).map λc=>P.str ⟨#[c]⟩ else none)=_;rw[e k h,if_pos (by decide +kernel)];rfl
noncomputable def hd(x:Str):Option Nat:=x.cps[0]?
theorem DT(c n:Nat)(x:Str):hd (dC ⟨#[c]⟩ (n+1)++x)=some c:=by
 have k:∀(n:Nat)(a:Array Nat),a[0]? = some c->((List.replicate n #[c]).foldl (·++·) a)[0]? = some c:=by
  intro n;induction n with
  |zero=>intro a h;exact h
  |succ n i=>intro a h;rw[gh,iM];refine i _ ?_;have s:0 < a.size:=(Array.getElem?_eq_some_iff.mp h).1;rw[Array.getElem?_append_left s];exact h
 have h:=k n (#[]++#[c]) (by simp);have s:0 < ((List.replicate n #[c]).foldl (·++·) (#[]++#[c])).size:=(Array.getElem?_eq_some_iff.mp h).1;show(((List.replicate (n+1) #[c]).foldl (·++·) #[])++x.cps)[0]? = some c;rw[gh,iM,Array.getElem?_append_left s];exact h
theorem na{n:Nat}(v:3≤n)(s:List Int){k:Nat}(r:k < 16):∃x:Str,strOk x/\(hd x=some (97+k)/\x.length≤100)/\pureOf (Ph n "_law_name") [cL s,.int (k:Int)]=some (.str x):=by
 obtain⟨n,rfl⟩:=gp (n:=n) (by first|assumption|lia);obtain⟨c,a,q,e,b⟩:=gH (n:=n+1) (by lia) s (k:=1) (p:=(k:Int)) (by lia) (by lia) (by lia);have u:=IQ k r;obtain⟨d,h,f⟩:=AE (k:=a / 4 % 3) Ei (by lia) (by rw[wN];lia) (by rw[wN];lia);have t:strOk ⟨#[97+k]⟩:=by show(#[97+k].all λc=>decide (c < 0x110000))=true;simp;lia
 have m:vR (.str ⟨#[97+k]⟩) (.int (1+a % 4))=some (.str (dC ⟨#[97+k]⟩ ((a % 4).toNat+1))):=by show(if (iC ((1+a % 4).toNat * 1) && decide ((1+a % 4).natAbs < 1000000))=true then some (P.str (dC ⟨#[97+k]⟩ (1+a % 4).toNat)) else none)=_;rw[if_pos (by rw[Bool.and_eq_true,la];exact⟨by lia,ju (by lia)⟩),show(1+a % 4).toNat=(a % 4).toNat+1 by lia]
 have z:=qg (x:=dC ⟨#[97+k]⟩ ((a % 4).toNat+1)) (y:=⟨#[d]⟩) (by rw[ik,rS,rS];lia);refine⟨dC ⟨#[97+k]⟩ ((a % 4).toNat+1)++⟨#[d]⟩,pP (xz t _) h,⟨DT _ _ _,?_⟩,?_⟩
 .have:=ik ⟨#[97+k]⟩ ((a % 4).toNat+1);rw[rS]at this;show((dC ⟨#[97+k]⟩ ((a % 4).toNat+1)).cps++#[d]).size≤100;rw[Array.size_append,show(dC ⟨#[97+k]⟩ ((a % 4).toNat+1)).cps.size=_ from this];simp;lia
 rw[r_,aj];simp[lg,e,b,u,f,m,z]
theorem K1(a:Int):∃r:Int,-1≤r/\r≤5/\L2.atI [P.int 0,.int 0,.int (-1),.int 5] (a % 4)=some (.int r):=by
 have h:a % 4=0\/a % 4=1\/a % 4=2\/a % 4=3:=by lia
 rcases h with h|h|h|h<;>rw[h]<;>simp
theorem H_(a:Int):∃r:Int,0≤r/\r≤2/\L2.atI [P.int 1,.int 2,.int 0,.int 1] (a % 4)=some (.int r):=by
 have h:a % 4=0\/a % 4=1\/a % 4=2\/a % 4=3:=by lia
 rcases h with h|h|h|h<;>rw[h]<;>simp
def ol(v:P):Prop:=∃x lo h a,strOk x/\-1≤lo/\lo≤a/\a≤h/\h≤7/\v=.tup [.str x,.int lo,.int h,.int a]
noncomputable def a9:P->Str
 | .tup (.str s::_)=>s
 |_=>""
def uM(v:List P):Prop:=(∀c ∈ v,ol c)/\∀i c,v[i]? = some c->hd (a9 c)=some (99+i)
@[simp] theorem GG(v:List P):toP 9 (.ref 0) [.lst (v.map .p)]=some (.lst v,[.fz (.lst v)]):=dP rfl
theorem cH(s:List P)(v:P):s.map D.p++[.p v]=(s++[v]).map .p:=by simp
theorem cz{Q:P->Prop}{s:List P}{v:P}(h:∀x ∈ s,Q x)(e:Q v):∀x ∈ s++[v],Q x:=λx a=>(dA.mp a).elim (h x) λa=>by rw[iO.mp a];exact e
theorem ua{Q:Nat->P->Prop}{s:List P}{v:P}(h:∀i x,s[i]? = some x->Q i x)(n:Q s.length v):∀i x,(s++[v])[i]? = some x->Q i x:=λi x a=>by
 by_cases e:i < s.length
 .rw [List.getElem?_append_left e]at a;exact h i x a
 .rw [fK (by lia)]at a;have:i-s.length=0:=by
   have:=(List.getElem?_eq_some_iff.mp a).1;simp at this;lia
  rw[this]at a;cases a;rw[show i=s.length by lia];exact n
theorem AG{n:Nat}(hn:4≤n)(t:List Int){f m:Int}(h0:0≤f)(h1:0≤m)(h2:m≤3):∃r:List P,r.length≤m.toNat/\uM r/\pureOf (Ph n "_law_cells") [cL t,.int f,.int m]=some (.lst r):=by
 obtain⟨n,rfl⟩:=gp (n:=n) (by first|assumption|lia);obtain⟨c,a,ha,G,I⟩:=gH (n:=n+1) (by lia) t (k:=2+f) (p:=1) (by lia) (by lia) (by lia);have hm:a % (m+1) < m+1:=d5 _ (by lia);have T:0≤a % (m+1):=dw _ (by lia);let Inv:Nat->Lc->aD->Prop:=λi L S=>∃(r:List P)(H F K A:Option D),r.length=i/\uM r/\L=[qp (cL t),qi f,qi m,qr 0,H,F,K,A]/\S=[.lst (r.map .p)]
 obtain⟨Z,S',e,r,H,F,K,A,j,o,rfl,rfl⟩:=bf (g:=ak 4) (b:=fP (Ph (n+1)) (Ph n)) (Inv:=Inv) (s:=Ev.intsFrom 0 (a % (m+1)).toNat) (k:=0)
  (L:=[qp (cL t),qi f,qi m,qr 0,none,none,none,none]) (S:=[.lst []]) (fun i v L S W O=>by
   obtain⟨rfl,hi⟩:=ints_get W;obtain⟨r,H,F,K,A,j,o,rfl,rfl⟩:=O;obtain⟨c2,d,hd,C,E⟩:=gH (n:=n+1) (by lia) t (k:=2+f) (p:=2+(i:Int)) (by lia) (by lia) (by lia);obtain⟨x,Y,y,N⟩:=na (n:=n+1) (by lia) t (k:=2+i) (by lia);obtain⟨lo,l,R,J⟩:=K1 d;obtain⟨u,V,B,M⟩:=H_ (d / 4);have z:0 < lo+u-lo+1:=by lia
   have Q:r.length≤1000000:=by lia
   generalize hw:d / 16 % (lo+u-lo+1)=w;have X:0≤w/\w < lo+u-lo+1:=by subst hw;exact⟨dw _ (by lia),d5 _ z⟩
   refine⟨_,[qp (cL t),qi f,qi m,qr 0,qi (i:Int),qi d,qi lo,qi (lo+u)],[.lst ((r++[P.tup [.str x,.int lo,.int (lo+u),.int (lo+w)]]).map D.p)],rfl,?_,_,_,_,_,_,by simp;lia,⟨cz o.1 ⟨x,lo,lo+u,lo+w,Y,l,by lia,by lia,by lia,rfl⟩,ua o.2 ?_⟩,rfl,rfl⟩
   .rw [<- cH];have q:pureOf (Ph (n+1) "_law_name") [cL t,.int (2+(i:Int))]=some (.str x):=by rw[<- N];rfl
    simp[fP,C,E,q,J,M,z,dD,Q,hw]
   .show My.hd x=_;rw[y.1,j];congr 1;lia) ⟨[],none,none,none,none,rfl,⟨λ_ h=>(by cases h),λ_ _ h=>(by cases h)⟩,rfl,rfl⟩
 refine⟨r,by rw[j,br];lia,o,?_⟩;have U:(a % (m+1)).natAbs < 1000000:=by lia
 have z:0 < m+1:=by lia
 rw[ph,aj];simp[km,G,I,U,z,e]
@[simp] theorem Jf:PyData.strOk "number"=true/\PyData.strOk "name"=true/\PyData.strOk "plus"=true/\PyData.strOk "minus"=true/\PyData.strOk "times"=true/\PyData.strOk "true"=true/\PyData.strOk "not"=true/\PyData.strOk "or"=true/\PyData.strOk "and"=true/\PyData.strOk "is"=true/\PyData.strOk "="=true/\PyData.strOk "!="=true/\PyData.strOk "<"=true/\PyData.strOk "<="=true/\PyData.strOk ">"=true/\PyData.strOk ">="=true/\PyData.strOk "row"=true/\PyData.strOk "heap"=true/\PyData.strOk "ma"=true/\PyData.strOk "mb"=true/\PyData.strOk "who"=true/\PyData.strOk "all"=true/\PyData.strOk "any"=true/\PyData.strOk ""=true/\PyData.strOk "it"=true/\PyData.strOk "weak"=true/\PyData.strOk "strong"=true/\PyData.strOk "step"=true/\PyData.strOk "lose"=true/\PyData.strOk "double"=true:=by decide +kernel
def jo(v:P):Prop:=∃s:Str,PyData.strOk s=true/\v=.str s
theorem jo.ok(h:jo v)(n:Nat):bC n v=true:=by obtain⟨s,h,rfl⟩:=h;simpa using h
theorem fB{s:List P}(h:∀x ∈ s,jo x)(n:Nat):bC (n+1) (.lst s)=true:=BQ λx a=>(h x a).ok n
theorem aZ(h:s≠[]):s.isEmpty=false:=by cases s with|nil=>exact absurd rfl h|cons _ _=>rfl
theorem len_pos(h:s≠[]):0 < s.length:=List.length_pos_iff.mpr h
noncomputable abbrev lL(k:Int):P:=.tup [.str "number",.int k]
noncomputable abbrev mG(y:P):P:=.tup [.str "name",y]
def oa(N:List P)(v:P):Prop:=(∃k,v=lL k)\/∃y ∈ N,v=mG y\/(∃k,v=.tup [.str "plus",mG y,lL k])\/(∃k j:Int,0≤k/\k≤2/\v=.tup [.str "minus",.tup [.str "times",mG y,lL k],lL j])\/v=.tup [.str "minus",lL 1,mG y]
variable{N:List P}
theorem oa.ok(a:∀x ∈ N,jo x)(h:oa N v):bC 4 v=true:=by
 rcases h with ⟨k,rfl⟩|⟨y,e,h⟩
 .simp
 .have o:∀k,bC k y=true:=λk=>(a y e).ok k;rcases h with rfl|⟨k,rfl⟩|⟨k,j,_,_,rfl⟩|rfl<;>simp[o]
theorem vc{n:Nat}(m:2≤n)(d:Int){s:List P}(c:∀x ∈ s,jo x):∃v,oa s v/\pureOf (Ph n "_law_sum") [.int d,.lst s]=some v:=by
 obtain⟨n,rfl⟩:=gp (n:=n) (by first|assumption|lia);have e:=wW (fB c 19);by_cases k:s=[]
 .subst k;refine⟨lL (d / 5 % 3),.inl ⟨_,rfl⟩,?_⟩;rw[fh,aj];simp[d7,e]
 rw[aZ k]at e;have l:=len_pos k;obtain⟨y,f,a⟩:=dL k (d / 5);have b:d % 5=0\/d % 5=1\/d % 5=2\/d % 5=3\/d % 5=4:=by lia
 rcases b with h|h|h|h|h
 .refine⟨lL (d / 5 % 3),.inl ⟨_,rfl⟩,?_⟩;rw[fh,aj];simp[d7,e,h]
 .refine⟨mG y,.inr ⟨y,f,.inl rfl⟩,?_⟩;rw[fh,aj];simp[d7,e,h,cB,dq,l,a]
 .refine⟨.tup [.str "plus",mG y,lL (d / 20 % 3)],.inr ⟨y,f,.inr (.inl ⟨_,rfl⟩)⟩,?_⟩;rw[fh,aj];simp[d7,e,h,cB,dq,l,a]
 .refine⟨.tup [.str "minus",.tup [.str "times",mG y,lL (d / 20 % 3)],lL (d / 60 % 2)],.inr ⟨y,f,.inr (.inr (.inl ⟨_,_,by lia,by lia,rfl⟩))⟩,?_⟩;rw[fh,aj];simp[d7,e,h,cB,dq,l,a]
 .refine⟨.tup [.str "minus",lL 1,mG y],.inr ⟨y,f,.inr (.inr (.inr rfl))⟩,?_⟩;rw[fh,aj];simp[d7,e,h,cB,dq,l,a]
def i3(N:List P)(v:P):Prop:=∃w y s,y ∈ N/\oa N s/\PyData.strOk w=true/\v=.tup [.str "is",.str w,mG y,s]
def oj(N:List P)(v:P):Prop:=v=.tup [.str "true"]\/i3 N v\/(∃p,i3 N p/\v=.tup [.str "not",p])\/∃p z,i3 N p/\z ∈ N/\v=.tup [.str "or",p,.tup [.str "and",.tup [.str "true"],.tup [.str "is",.str "=",lL 1,mG z]]]
theorem i3.ok(a:∀x ∈ N,jo x)(h:i3 N v):bC 5 v=true:=by obtain⟨w,y,s,n,e,hw,rfl⟩:=h;have o:∀k,bC k y=true:=λk=>(a y n).ok k;simp[o,e.ok a,hw]
theorem oj.ok(a:∀x ∈ N,jo x)(h:oj N v):bC 7 v=true:=by
 rcases h with rfl|h|⟨p,h,rfl⟩|⟨p,z,h,e,rfl⟩
 .simp
 .exact cc (h.ok a) (by lia)
 .simp [cc (h.ok a) (show 5≤6 by lia)]
 .have o:∀k,bC k z=true:=λk=>(a z e).ok k;simp[cc (h.ok a) (show 5≤6 by lia),o]
theorem w6(a:Int):∃w:Str,PyData.strOk w=true/\L2.atI [P.str "=",.str "!=",.str "<",.str "<=",.str ">",.str ">="] (a % 6)=some (.str w):=by obtain⟨w,hw,e⟩:=v9 (s:=[P.str "=",.str "!=",.str "<",.str "<=",.str ">",.str ">="]) (k:=a % 6) (by lia) (by simp;lia);simp only[ba,dB,du]at hw;rcases hw with rfl|rfl|rfl|rfl|rfl|rfl<;>exact⟨_,by simp,e⟩
theorem Ci{n:Nat}(j:3≤n)(d:Int){s:List P}(m:∀x ∈ s,jo x):∃v,oj s v/\pureOf (Ph n "_law_condition") [.int d,.lst s]=some v:=by
 obtain⟨n,rfl⟩:=gp (n:=n) (by first|assumption|lia);have e:=wW (fB m 19);by_cases a:s=[]
 .subst a;refine⟨.tup [.str "true"],.inl rfl,?_⟩;rw[cK,aj];simp[bY,e]
 rw[aZ a]at e;have l:=len_pos a;obtain⟨y,g,c⟩:=dL a (d / 30);obtain⟨z,i,r⟩:=v9 (s:=s) (k:=0) (by lia) (by lia);obtain⟨w,hw,b⟩:=w6 (d / 5);obtain⟨v,u,f⟩:=vc (n:=n+1) (by lia) (d / 90) m;have p:i3 s (.tup [.str "is",.str w,mG y,v]):=⟨w,y,v,g,u,hw,rfl⟩;by_cases t:d % 5 < 2
 .refine⟨.tup [.str "true"],.inl rfl,?_⟩;rw[cK,aj];simp[bY,e,t]
 have q:d % 5=2\/d % 5=3\/d % 5=4:=by lia
 rcases q with h|h|h
 .refine⟨_,.inr (.inr (.inl ⟨_,p,rfl⟩)),?_⟩;rw[cK,aj];simp[bY,e,h,cB,dq,l,c,b,f]
 .refine⟨_,.inr (.inr (.inr ⟨_,z,p,i,rfl⟩)),?_⟩;rw[cK,aj];simp[bY,e,h,cB,dq,l,c,r,b,f]
 .refine⟨_,.inr (.inl p),?_⟩;rw[cK,aj];simp[bY,e,h,cB,dq,l,c,b,f]
def gn(v:P):Prop:=∃(a b k:Str)(c:Int)(d e:Bool),PyData.strOk a=true/\PyData.strOk b=true/\(k="row"\/k="heap")/\1≤c/\c≤3/\v=.tup [.str a,.str b,.str k,.int c,.bl d,.bl e]
noncomputable def rA:P->Str
 | .tup (.str a::_)=>a
 |_=>""
noncomputable def rB:P->Str
 | .tup (_::.str b::_)=>b
 |_=>""
def RD(r h:P):Prop:=¬(rA r=rA h/\rB r=rB h)
def Dd(F:List P)(v:List P):Prop:=v.length≤8/\(∀r ∈ v,gn r/\.str (rA r) ∈ F/\.str (rB r) ∈ F)/\v.Pairwise RD
def KE(F:List P)(v:List P)(i j:Nat):Prop:=∀r ∈ v,∃h x,F[h]? = some (.str (rA r))/\F[x]? = some (.str (rB r))/\(h < i\/(h=i/\x < j))
theorem CL{a b:P}(d:Int):∃w,(w=a\/w=b)/\L2.atI [a,b] (d % 2)=some w:=by obtain⟨w,hw,e⟩:=v9 (s:=[a,b]) (k:=d % 2) (by lia) (by simp;lia);exact⟨w,by simpa using hw,e⟩
theorem eI{s:List P}{i:Nat}{v:P}(h:(a_ 0 s)[i]? = some v):∃x,s[i]? = some x/\v=.tup [.int (i:Int),x]:=by obtain⟨x,a,e⟩:=lQ h;exact⟨x,a,by rw[e];simp⟩
theorem aW{a:Type}{s:List a}{i:Nat}{x:a}(h:s[i]? = some x):i < s.length:=(List.getElem?_eq_some_iff.mp h).1
theorem y9{n:Nat}(hn:3≤n)(A:List Int){s:List P}(hx:∀x ∈ s,jo x)(T:∀(i j:Nat) x,s[i]? = some x->s[j]? = some x->i=j)(hl:s.length≤4){m:Int}(h1:0 < m)(h3:m≤3):∃f:List P,Dd s f/\pureOf (Ph n "_law_roads") [cL A,.lst s,.int m]=some (.lst f):=by
 obtain⟨n,rfl⟩:=gp (n:=n) (by first|assumption|lia);let I:Nat->Option D->Option D->Nat->Lc->aD->Prop:=λii k B j L S=>∃(f:List P)(J M N C:Option D),(Dd s f/\KE s f ii j)/\L=[qp (cL A),ql s,qi m,qr 0,k,B,J,M,N,C]/\S=[.lst (f.map .p)]
 let Inv:Nat->Lc->aD->Prop:=λi L S=>∃k B,I i k B 0 L S
 obtain⟨L',S',e,k0,one0,f,J,M,N,C,⟨H,_⟩,rfl,rfl⟩:=bf (g:=aK [ak 4,ak 5]) (b:=fO (Ph (n+1)) (Ph n)) (Inv:=Inv) (s:=a_ 0 s) (k:=0)
  (L:=[qp (cL A),ql s,qi m,qr 0,none,none,none,none,none,none]) (S:=[.lst []]) (fun i v L S hv Z=>by
   obtain⟨x,q,rfl⟩:=eI hv;have hi:=aW q;have V:=bL q;obtain⟨a,ha,rfl⟩:=hx x V;obtain⟨_,_,f,J,M,N,C,H,rfl,rfl⟩:=Z;rw[fq]at H ⊢;obtain⟨L',S',e,hI2⟩:=bf (g:=aK [ak 6,ak 7]) (b:=dj (Ph (n+1)) (Ph n)) (Inv:=I i (qi (i:Int)) (qs a)) (s:=a_ 0 s) (k:=0)
    (L:=[qp (cL A),ql s,qi m,qr 0,qi (i:Int),qs a,J,M,N,C]) (S:=[.lst (f.map .p)]) (fun j v L S hv Z=>by
     obtain⟨y,u,rfl⟩:=eI hv;have hj:=aW u;have W:=bL u;obtain⟨b,hb,rfl⟩:=hx y W;obtain⟨f,J,M,N,C,⟨H,t⟩,rfl,rfl⟩:=Z;rw[fq]at t ⊢;obtain⟨c,d,hd,O,Q⟩:=gH (n:=n+1) (by lia) A (k:=4) (p:=30+4 * (i:Int)+(j:Int)) (by lia) (by lia) (by lia);have m4:fJ 4 (i:Int)=true:=bw (by decide) (by lia);by_cases hg:0 < d % 4/\f.length < 8
     .obtain⟨w,hw,X⟩:∃w:Str,(w="row"\/w="heap")/\L2.atI [P.str "row",.str "heap"] (d / 4 % 2)=some (.str w):=by
       obtain⟨w,hw,X⟩:=CL (a:=.str "row") (b:=.str "heap") (d / 4);rcases hw with rfl|rfl
       .exact⟨_,.inl rfl,X⟩
       .exact⟨_,.inr rfl,X⟩
      have U:f.length≤1000000:=by lia
      have c0:0≤d / 8 % m:=dw _ (by lia);have c1:d / 8 % m < m:=d5 _ h1;refine⟨_,[qp (cL A),ql s,qi m,qr 0,qi (i:Int),qs a,qi (j:Int),qs b,qi d,qs w],[.lst ((f++[P.tup [.str a,.str b,.str w,.int (1+d / 8 % m),.bl (decide (d / 24 % 3=1)),.bl (decide (d / 72 % 3=1))]]).map D.p)],rfl,?_,_,_,_,_,_,⟨⟨by simp;lia,cz H.2.1 ⟨⟨a,b,w,_,_,_,ha,hb,hw,by lia,by lia,rfl⟩,V,W⟩,List.pairwise_append.mpr ⟨H.2.2,List.pairwise_singleton _ _,λr K z hz=>?_⟩⟩,cz (λr K=>?_) ⟨i,j,q,u,.inr ⟨rfl,by lia⟩⟩⟩,rfl,rfl⟩;rotate_left
      .rw [iO.mp hz];rintro ⟨O,Q⟩;obtain⟨E,G,l,o,Y⟩:=t r K;rw[O]at l;rw[Q]at o;have:=T _ _ _ l q
       have:=T _ _ _ o u;lia
      .obtain⟨E,G,l,o,Y⟩:=t r K;exact⟨E,G,l,o,by lia⟩
      rw[<- cH];have F:(f.length:Int) < 8:=by lia
      simp[dj,O,Q,m4,hg.1,cB,F,X,h1,dD,U]
     .refine⟨_,[qp (cL A),ql s,qi m,qr 0,qi (i:Int),qs a,qi (j:Int),qs b,qi d,C],[.lst (f.map D.p)],rfl,?_,f,_,_,_,_,⟨H,λr K=>?_⟩,rfl,rfl⟩;rotate_left
      .obtain⟨E,G,l,o,Y⟩:=t r K;exact⟨E,G,l,o,by lia⟩
      by_cases R:0 < d % 4
      .have F:¬(f.length:Int) < 8:=by lia
       simp[dj,O,Q,m4,R,cB,F]
      .simp [dj,O,Q,m4,R,cB]) ⟨f,J,M,N,C,H,rfl,rfl⟩
   obtain⟨vs',z6,z7,z8,z9,⟨hi1,hi2⟩,hi3,hi4⟩:=hI2;exact⟨_,L',S',rfl,by simpa[fO] using e,_,_,vs',z6,z7,z8,z9,⟨hi1,λr K=>by obtain⟨E,G,l,o,Y⟩:=hi2 r K;exact⟨E,G,l,o,by lia⟩⟩,hi3,hi4⟩) ⟨none,none,[],none,none,none,none,⟨⟨by simp,λ_ h=>(by cases h),List.Pairwise.nil⟩,λ_ h=>(by cases h)⟩,rfl,rfl⟩
 refine⟨f,H,?_⟩;rw[pe,aj];simp[kj,e]
end My
namespace My
open PySem L2 Ev
variable{s:Str}{l:List P}
theorem vk(H:∀c ∈ l,gn c)(L:Lc)(j k:Nat)(t:j < L.length)(h:k≠j)(z:L[k]? = some (qs s))(S:aD) :
  ∃f,bA (ak j) (bV (aC eC (eV (ac ar (vv j) (vi 0))) (aa k))) (ac ar (vv j) (vi 1)) l L S=some (f,S)/\(∀y ∈ f,jo y/\∃r ∈ l,rA r=s/\y=.str (rB r))/\f.length≤l.length:=by
 refine j5 (Inv:=λm=>∃d,m=L.set j d) (λv p m u=>?_) ⟨L[j],(jz t).symm⟩;obtain⟨d,rfl⟩:=u;obtain⟨a,b,n,c,x,e,F,i,o,_,_,rfl⟩:=H v p;have g:((L.set j d).set j (qt [.str a,.str b,.str n,.int c,.bl x,.bl e]))[j]? = some (qt [.str a,.str b,.str n,.int c,.bl x,.bl e]):=by rw[dX (by simpa using t)]
 have w:((L.set j d).set j (qt [.str a,.str b,.str n,.int c,.bl x,.bl e]))[k]? = some (qs s):=by rw[aX (Ne.symm h),aX (Ne.symm h)];exact z
 exact⟨_,decide (a=s),rfl,⟨_,List.set_set ..⟩,by simp[-List.set_set,g,w],λq=>⟨.str b,by simp[-List.set_set,g],⟨b,i,rfl⟩,_,p,aS q,rfl⟩⟩
theorem xE(H:∀c ∈ l,gn c)(L:Lc)(j k:Nat)(t:j < L.length)(h:k≠j)(z:L[k]? = some (qs s))(S:aD) :
  ∃f,bA (ak j) (bV (aC eC (eV (ac ar (vv j) (vi 1))) (aa k))) (ac ar (vv j) (vi 0)) l L S=some (f,S)/\(∀y ∈ f,jo y/\∃r ∈ l,rB r=s/\y=.str (rA r))/\f.length≤l.length:=by
 refine j5 (Inv:=λm=>∃d,m=L.set j d) (λv p m u=>?_) ⟨L[j],(jz t).symm⟩;obtain⟨d,rfl⟩:=u;obtain⟨a,b,n,c,x,e,i,F,o,_,_,rfl⟩:=H v p;have g:((L.set j d).set j (qt [.str a,.str b,.str n,.int c,.bl x,.bl e]))[j]? = some (qt [.str a,.str b,.str n,.int c,.bl x,.bl e]):=by rw[dX (by simpa using t)]
 have w:((L.set j d).set j (qt [.str a,.str b,.str n,.int c,.bl x,.bl e]))[k]? = some (qs s):=by rw[aX (Ne.symm h),aX (Ne.symm h)];exact z
 exact⟨_,decide (b=s),rfl,⟨_,List.set_set ..⟩,by simp[-List.set_set,g,w],λq=>⟨.str a,by simp[-List.set_set,g],⟨a,i,rfl⟩,_,p,aS q,rfl⟩⟩
theorem tD(h:l.length≤8):l.length≤1000000:=by lia
theorem nU(d:Int):∃w:Str,(w=a\/w=b)/\L2.atI [P.str a,.str b] (d % 2)=some (.str w):=by
 obtain⟨w,hw,e⟩:=CL (a:=.str a) (b:=.str b) d;rcases hw with rfl|rfl
 .exact⟨_,.inl rfl,e⟩
 .exact⟨_,.inr rfl,e⟩
def kC(s:Str)(l u N:List P)(v:P):Prop:=∃(m:Str)(t:P)(w n:Str),PyData.strOk m=true/\PyData.strOk n=true/\oa N t/\((w="who"/\P.str n ∈ u)\/((w="all"\/w="any")/\∃r ∈ l,rA r=s/\n=rB r))/\v=.tup [.str m,t,.str w,.str n]
variable{u:List P}
theorem kC.ok(a:∀x ∈ N,jo x)(h:kC s l u N v):bC 5 v=true:=by
 obtain⟨m,t,w,f,e,n,k,hw,rfl⟩:=h;have hw:PyData.strOk w=true:=by rcases hw with ⟨rfl,_⟩|⟨rfl|rfl,_⟩<;>simp
 simp[e,n,hw,k.ok a]
variable{n:Nat}
theorem y0(hn:3≤n)(d:Int)(hnm:∀x ∈ nm,jo x)(hw:∀x ∈ u,jo x)(hr:∀c ∈ l,gn c)(hrl:l.length≤8){m:Int}(h1:0≤m)(h2:m≤3) :
  ∃t:List P,t.length≤3/\(∀c ∈ t,kC s l u nm c)/\pureOf (Ph n "_law_sends") [.int d,.str s,.lst nm,.lst u,.lst l,.int m]=some (.lst t):=by
 obtain⟨n,rfl⟩:=gp (n:=n) (by first|assumption|lia);have hm:d % (m+1) < m+1:=d5 _ (by lia);have hm0:0≤d % (m+1):=dw _ (by lia);obtain⟨gs,eg,X,hgl⟩:=vk (s:=s) hr [qi d,qs s,ql nm,ql u,ql l,qi m,none,none,none,none,none,none,none] 12 1 (by simp) (by lia) rfl [];have W:=j1 (fB hw 19);have R:=j1 (fB (λx hx=>(X x hx).1) 19);let F:Option D->Option D->Option D->Option D->Lc:=λT U q j=>[qi d,qs s,ql nm,ql u,ql l,qi m,ql gs,qr 0,T,U,q,j]
 let Inv:Nat->Lc->aD->Prop:=λi L S=>∃(t:List P)(T U q j:Option D),t.length≤i/\(∀c ∈ t,kC s l u nm c)/\L=F T U q j/\S=[.lst (t.map .p)]
 obtain⟨L',S',e,t,T,U,q,j,hc,Z,rfl,rfl⟩:=bf (g:=ak 8) (b:=bD (Ph (n+1)) (Ph n)) (Inv:=Inv) (s:=Ev.intsFrom 0 (d % (m+1)).toNat) (k:=0)
  (L:=F none none none none) (S:=[.lst []]) (fun i v L S hv hI=>by
   obtain⟨rfl,hi⟩:=ints_get hv;obtain⟨t,T,U,q,j,hc,Z,rfl,rfl⟩:=hI;simp only[eD];obtain⟨dv,A,y⟩:∃z:Int,(0 < z/\z < 1152921504606846976)/\L2.atI [P.int 4,.int 1000,.int 100000] (i:Int)=some (.int z):=by
    have:i=0\/i=1\/i=2:=by lia
    rcases this with rfl|rfl|rfl
    .exact⟨4,by decide,by simp⟩
    .exact⟨1000,by decide,by simp⟩
    .exact⟨100000,by decide,by simp⟩
   generalize C:d / dv=o;obtain⟨tr,htr,K⟩:=vc (n:=n+1) (by lia) (o / 12 % 300) hnm;obtain⟨mk,hmk,H⟩:=nU (a:="ma") (b:="mb") o;have omk:PyData.strOk mk=true:=by rcases hmk with rfl|rfl<;>simp
   have B:t.length≤1000000:=by lia
   by_cases O:u≠[]/\o / 2 % 3=1
   .obtain⟨w,E,ew⟩:=dL O.1 (o / 50);obtain⟨w,M,rfl⟩:=hw w E;have hl:=len_pos O.1;refine⟨_,F (qi (i:Int)) (qi o) (qp tr) (qs mk),[.lst ((t++[P.tup [.str mk,tr,.str "who",.str w]]).map D.p)],rfl,?_,_,_,_,_,_,by simp;lia,cz Z ⟨mk,tr,_,w,omk,M,htr,.inl ⟨rfl,E⟩,rfl⟩,rfl,rfl⟩;rw[<- cH];rw[aZ O.1]at W;simp[bD,F,y,A,C,K,H,W,O.2,cB,dq,hl,ew,dD,B]
   .by_cases Q:gs=[]
    .refine⟨_,F (qi (i:Int)) (qi o) (qp tr) (qs mk),[.lst (t.map D.p)],rfl,?_,t,_,_,_,_,by lia,Z,rfl,rfl⟩;rw[Q]at R;by_cases p:u=[]
     .rw [p]at W;simp[bD,F,y,A,C,K,H,W,R,Q,p]
     .rw [aZ p]at W;have h3:¬o / 2 % 3=1:=λz=>O ⟨p,z⟩;simp[bD,F,y,A,C,K,H,W,R,Q,h3]
    .obtain⟨w,E,ew⟩:=dL Q (o / 3);obtain⟨⟨w,M,rfl⟩,r,hrm,hra,N⟩:=X w E;have N:w=rB r:=by cases N;rfl
     have hl:=len_pos Q;rw[aZ Q]at R;have V:∀G:Str,(G="all"\/G="any")->(∀L S,(ac ar (aP (v2 (vt "all") (vt "any"))) (ac fm (ac aO (ac aB (vv 9) (vi 6)) (vi 2)) (ah bS (v1 (ac AW (vv 8) (vi 2)))))) (F (qi (i:Int)) (qi o) L S) [.lst (t.map .p)]=some (.str G,[.lst (t.map .p)]))->∃L1 L2 S2,ak 8 (.int (i:Int)) (F T U q j)=some L1/\bD (Ph (n+1)) (Ph n) L1 [.lst (t.map .p)]=some (.nx,L2,S2)/\Inv (0+i+1) L2 S2:=λG I f=>by
      have f:=f (qp tr) (qs mk);refine⟨_,F (qi (i:Int)) (qi o) (qp tr) (qs mk),[.lst ((t++[P.tup [.str mk,tr,.str G,.str w]]).map D.p)],rfl,?_,_,_,_,_,_,by simp;lia,cz Z ⟨mk,tr,G,w,omk,M,htr,.inr ⟨I,r,hrm,hra,N⟩,rfl⟩,rfl,rfl⟩;rw[<- cH];unfold bD;generalize (ac ar (aP (v2 (vt "all") (vt "any"))) (ac fm (ac aO (ac aB (vv 9) (vi 6)) (vi 2)) (ah bS (v1 (ac AW (vv 8) (vi 2))))))=fa at f ⊢;simp only[F]at f ⊢;by_cases p:u=[]
      .rw [p]at W f ⊢;simp[y,A,C,K,H,W,R,cB,dq,hl,ew,dD,B,f]
      .rw [aZ p]at W;have h3:¬o / 2 % 3=1:=λz=>O ⟨p,z⟩;simp[y,A,C,K,H,W,R,h3,cB,dq,hl,ew,dD,B,f]
     by_cases Y:i < 2
     .have J:(i:Int) < 2:=by lia
      obtain⟨G,I,f⟩:=nU (a:="all") (b:="any") (o / 6);have mo:fJ (o / 6 % 2) 1=true:=bw (by lia) (by decide);exact V G I λL S=>by simp[F,Y,J,bS,jT,mo,f]
     .have J:¬(i:Int) < 2:=by lia
      have mo:fJ (o / 6 % 2) 0=true:=bw (by lia) (by decide);exact V "all" (.inl rfl) λL S=>by simp[F,Y,J,bS,jT,mo]) ⟨[],none,none,none,none,by simp,λ_ h=>(by cases h),rfl,rfl⟩
 refine⟨t,by rw[br]at hc;lia,Z,?_⟩;have hq:(d % (m+1)).natAbs < 1000000:=by lia
 have hz:0 < m+1:=by lia
 rw[pc,aj];simp[ki,bo,tD hrl,lG,eg,hq,hz];simp[F]at e;simp[e]
@[simp] theorem HA(L:Lc)(S:aD):fZ L S=some (none,S):=rfl
@[simp] theorem Hz(a:EV)(L:Lc)(S:aD):fI a L S=aG (a L S) λv h=>match v with | .int i=>some (some i,h)|_=>none:=rfl
@[simp] theorem Iz(x:List P)(lo h:Option Int):AC (.lst x) lo h=some (.lst (cut x lo h)):=rfl
@[simp] theorem Iy(x:List P)(lo h:Option Int):AC (.tup x) lo h=some (.tup (cut x lo h)):=rfl
theorem k_:(∀x ∈ cut h lo i,x ∈ h)/\(cut h lo i).length≤h.length:=by
 unfold cut;refine⟨λx a=>?_,?_⟩
 .first
   |exact lz (qH a)
   |exact qH (lz a)
 .simp only[List.length_take,List.length_drop];lia
def jK(s:Str)(l u:List P)(v:P):Prop:=v=.non\/∃m a i w,PyData.strOk m=true/\PyData.strOk a=true/\PyData.strOk i=true/\PyData.strOk w=true/\(∃r ∈ l,rB r=s/\a=rA r)/\(w=""\/P.str w ∈ u)/\v=.tup [.str m,.str a,.str i,.str w]
noncomputable def more:P->List P
 | .non=>[]
 |_=>[.str "it"]
theorem jK.ok(h:jK s l u v):bC 2 v=true:=by
 rcases h with rfl|⟨m,a,i,w,x,e,n,k,_,_,rfl⟩
 .rfl
 .simp [x,e,n,k]
theorem step_if(ψ ι:Str->GF){d0:Int}(A:∀x ∈ m,jo x)(hw:∀x ∈ u,jo x)(hs:∀x ∈ j,jo x/\∃r ∈ l,rB r=s/\x=.str (rA r)) :
  ∃tk f Y Z,jK s l u tk/\(∀x ∈ f,jo x)/\f.length≤m.length /\
   aJ ψ ι [ql (.int d0::ds),qs s,qp rooms,qp cells,ql u,ql l,ql m,ql j,qp .non,ql m,ql [],none,none,none,none,none,none,none] []
    = some (.nx,[ql (.int d0::ds),qs s,qp rooms,qp cells,ql u,ql l,ql m,ql j,qp tk,ql f,ql (more tk),Y,Z,none,none,none,none,none],[]):=by
 have S:=j1 (fB (λx K=>(hs x K).1) 19);have N:=j1 (fB A 19);have W:=j1 (fB hw 19);by_cases c:j≠[]/\d0 % 3=1
 .rw [aZ c.1]at S;obtain⟨s1,Q,d⟩:=dL c.1 (d0 / 24);have n:=len_pos c.1;obtain⟨mk,J,k⟩:=nU (a:="ma") (b:="mb") (d0 / 12);obtain⟨⟨sn,V,rfl⟩,r,O,M,o⟩:=hs s1 Q;have o:sn=rA r:=by cases o;rfl
  have U:PyData.strOk mk=true:=by rcases J with rfl|rfl<;>simp
  have H:∃i f,PyData.strOk i=true/\(∀x ∈ f,jo x)/\f.length≤m.length/\((m≠[]/\d0 / 3 % 2=1/\L2.atI m (-1)=some (.str i)/\f=cut m none (some (-1)))\/((m=[]\/¬d0 / 3 % 2=1)/\i=""/\f=m)):=by
   by_cases v:m≠[]/\d0 / 3 % 2=1
   .obtain⟨x,K,G⟩:=atI_last v.1;obtain⟨x,X,rfl⟩:=A x K;exact⟨x,_,X,λy hy=>A y (k_.1 y hy),k_.2,.inl ⟨v.1,v.2,G,rfl⟩⟩
   .refine⟨_,_,by simp,A,Nat.le_refl _,.inr ⟨?_,rfl,rfl⟩⟩;by_cases z:m=[]
    .exact .inl z
    .exact .inr λq=>v ⟨z,q⟩
  have F:∃w,PyData.strOk w=true/\((u≠[]/\d0 / 6 % 2=1/\P.str w ∈ u/\L2.atI u (d0 / 200 % (u.length:Int))=some (.str w))\/((u=[]\/¬d0 / 6 % 2=1)/\w="")):=by
   by_cases v:u≠[]/\d0 / 6 % 2=1
   .obtain⟨x,K,G⟩:=dL v.1 (d0 / 200);obtain⟨x,X,rfl⟩:=hw x K;exact⟨x,X,.inl ⟨v.1,v.2,K,G⟩⟩
   .refine⟨_,by simp,.inr ⟨?_,rfl⟩⟩;by_cases z:u=[]
    .exact .inl z
    .exact .inr λq=>v ⟨z,q⟩
  obtain⟨i,f,hi,hf,I,p1⟩:=H;obtain⟨w,B,E⟩:=F;refine⟨.tup [.str mk,.str sn,.str i,.str w],f,qs i,qs w,.inr ⟨mk,sn,i,w,U,V,hi,B,⟨r,O,M,o⟩,?_,rfl⟩,hf,I,?_⟩
  .rcases E with ⟨_,_,h,_⟩|⟨_,h⟩
   .exact .inr h
   .exact .inl h
  rcases p1 with ⟨g,R,T,rfl⟩|⟨g,rfl,rfl⟩
  .rw [aZ g]at N;rcases E with ⟨e,C,_,D⟩|⟨e,rfl⟩
   .rw [aZ e]at W;have t:=len_pos e;simp[aJ,more,S,c.2,N,R,T,W,C,D,cB,dq,n,t,d,k]
   .rcases e with e|e
    .subst e;simp[aJ,more,S,c.2,N,R,T,W,cB,dq,n,d,k]
    .cases p:u.isEmpty<;>(rw[p]at W;simp[aJ,more,S,c.2,N,R,T,W,e,cB,dq,n,d,k])
  .rcases g with g|g
   .subst g;rcases E with ⟨e,C,_,D⟩|⟨e,rfl⟩
    .rw [aZ e]at W;have t:=len_pos e;simp[aJ,more,S,c.2,N,W,C,D,cB,dq,n,t,d,k]
    .rcases e with e|e
     .subst e;simp[aJ,more,S,c.2,N,W,cB,dq,n,d,k]
     .cases p:u.isEmpty<;>(rw[p]at W;simp[aJ,more,S,c.2,N,W,e,cB,dq,n,d,k])
   .cases L:f.isEmpty <;> rw [L] at N <;> (
    rcases E with ⟨e,C,_,D⟩|⟨e,rfl⟩
    .rw [aZ e]at W;have t:=len_pos e;simp[aJ,more,S,c.2,N,g,W,C,D,cB,dq,n,t,d,k]
    .rcases e with e|e
     .subst e;simp[aJ,more,S,c.2,N,g,W,cB,dq,n,d,k]
     .cases p:u.isEmpty<;>(rw[p]at W;simp[aJ,more,S,c.2,N,g,W,e,cB,dq,n,d,k]))
 .refine⟨.non,m,none,none,.inl rfl,A,Nat.le_refl _,?_⟩;by_cases z:j=[]
  .subst z;simp[aJ,more,S]
  .have z2:¬d0 % 3=1:=λq=>c ⟨z,q⟩;rw[aZ z]at S;simp[aJ,more,S,z2]
def o5(s:List P):List P:=s.map λc=>.str (a9 c)
theorem nY(e:∀c ∈ a,ol c):∀x ∈ o5 a,jo x:=λx s=>by obtain⟨c,h,rfl⟩:=cN.mp s;obtain⟨x,_,_,_,o,_,_,_,_,rfl⟩:=e c h;exact⟨x,o,rfl⟩
theorem qo(m:∀c ∈ h,ol c)(L:Lc)(j:Nat)(n:j < L.length)(S:aD) :
  bA (ak j) ir (ac ar (vv j) (vi 0)) h L S=some (o5 h,S):=by
 have:=di (g:=ak j) (c:=ir) (e:=ac ar (vv j) (vi 0)) (S:=S) (p:=fun _=>true) (f:=fun c=>.str (a9 c)) (s:=h) (L:=L) (Inv:=fun s=>∃d,s=L.set j d) (fun v r s b=>by
  obtain⟨d,rfl⟩:=b;obtain⟨x,lo,i,a,t,_,_,_,_,rfl⟩:=m v r;have k:((L.set j d).set j (qt [.str x,.int lo,.int i,.int a]))[j]? = some (qt [.str x,.int lo,.int i,.int a]):=by rw[dX (by simpa using n)]
  exact⟨_,rfl,⟨_,List.set_set ..⟩,rfl,λ_=>by simp[-List.set_set,k,a9]⟩) ⟨L[j],(jz n).symm⟩
 rw[this,qT.mpr λ_ _=>rfl];rfl
def CW(N:List P)(c:P):Prop:=∃x t,PyData.strOk x=true/\oa N t/\c=.tup [.str x,t]
structure Stp(s:Str)(rooms cells whos rs:List P)(rm when tk:P)(chg sn:List P)(rm2:P):Prop where
 h1:rm ∈ rooms
 h2:rm2 ∈ rooms
 wh:oj (o5 cells) when
 htk:jK s rs whos tk
 cl:chg.length≤3
 ch:∀c ∈ chg,CW (o5 cells++more tk) c
 sl:sn.length≤3
 hsn:∀c ∈ sn,kC s rs whos (o5 cells++more tk) c
theorem nc(v:P):∀x ∈ more v,jo x:=λx h=>by
 cases v with
 |non=>cases h
 |_=>exact⟨"it",by simp,by simpa[more] using h⟩
theorem zJ(v:P):(more v).length≤1:=by cases v<;>simp[more]
theorem Bm(hn:4≤n)(C K B w:Int)(hrm:∀x ∈ r,jo x)(A:r≠[])(V:∀c ∈ e,ol c)(hcl:e.length≤3)(hw:∀x ∈ u,jo x)(hr:∀c ∈ l,gn c)(J:l.length≤8) :
  ∃rm R o p Q N,Stp s r e u l rm R o p Q N/\pureOf (Ph n "_law_step") [.lst [.int C,.int K,.int B,.int w],.str s,.lst r,.lst e,.lst u,.lst l]=some (.tup [rm,R,o,.lst p,.lst Q,N]):=by
 obtain⟨n,rfl⟩:=gp (n:=n) (by first|assumption|lia);have e1:=qo V [ql [.int C,.int K,.int B,.int w],qs s,ql r,ql e,ql u,ql l,none,none,none,none,none,none,none,none,none,none,none,none,none] 18 (by simp) [];have d:=nY V;have hnl:(o5 e).length=e.length:=by simp[o5]
 generalize U:o5 e=f at e1 d hnl;obtain⟨snd,e2,hsn,_⟩:=xE (s:=s) hr [ql [.int C,.int K,.int B,.int w],qs s,ql r,ql e,ql u,ql l,ql f,none,none,none,none,none,none,none,none,none,none,none,none] 18 1 (by simp) (by lia) rfl [];obtain⟨o,fr,q11,q12,htk,Y,hfl,e3⟩:=step_if (Ph (n+1)) (Ph n) (d0:=C) (ds:=[.int K,.int B,.int w]) (rooms:=.lst r) (cells:=.lst e) d hw hsn;have Z:=zJ o;have I:=nc o;generalize hM:more o=O at e3 Z I;have y:∀x ∈ f++O,jo x:=λx hx=>(dA.mp hx).elim (d x) (I x)
 have j:f.length+O.length≤1000000:=by lia
 have W:e.length≤1000000:=by lia
 let F:Option D->Option D->Lc:=λq t=>[ql [.int C,.int K,.int B,.int w],qs s,ql r,ql e,ql u,ql l,ql f,ql snd,qp o,ql fr,ql O,q11,q12,qr 0,q,t,none,none]
 let Inv:Nat->Lc->aD->Prop:=λi L S=>∃(H:List P)(q t:Option D),H.length≤i/\(∀c ∈ H,CW (f++O) c)/\L=F q t/\S=[.lst (H.map .p)]
 obtain⟨L',S',e4,p,q,t,E,X,rfl,rfl⟩:=bf (g:=aK [ak 14,ak 15]) (b:=eR (Ph (n+1)) (Ph n)) (Inv:=Inv) (s:=a_ 0 fr) (k:=0) (L:=F none none) (S:=[.lst []]) (fun i v L S hv hI=>by
   obtain⟨x,M,rfl⟩:=eI hv;have hi:=aW M;obtain⟨x,ox,rfl⟩:=Y x (bL M);obtain⟨H,q,t,V,ho,rfl,rfl⟩:=hI;have G:H.length≤1000000:=by lia
   obtain⟨a,b,ha,hb,ea,eb⟩:∃a b:Int,(0 < a/\a < 1152921504606846976)/\(0 < b/\b < 1152921504606846976)/\L2.atI [P.int 1,.int 1000,.int 1000000] (i:Int)=some (.int a)/\L2.atI [P.int 2,.int 2000,.int 2000000] (i:Int)=some (.int b):=by
    have:i=0\/i=1\/i=2:=by lia
    rcases this with rfl|rfl|rfl
    .exact⟨1,2,by decide,by decide,by simp,by simp⟩
    .exact⟨1000,2000,by decide,by decide,by simp,by simp⟩
    .exact⟨1000000,2000000,by decide,by decide,by simp,by simp⟩
   by_cases h:K / a % 2=1
   .obtain⟨tr,htr,T⟩:=vc (n:=n+1) (by lia) (K / b % 300) y;refine⟨_,F (qi (i:Int)) (qs x),[.lst ((H++[P.tup [.str x,tr]]).map D.p)],rfl,?_,_,_,_,by simp;lia,cz ho ⟨x,tr,ox,htr,rfl⟩,rfl,rfl⟩;rw[<- cH];simp[eR,F,ea,eb,ha,hb,h,j,T,dD,G]
   .refine⟨_,F (qi (i:Int)) (qs x),[.lst (H.map D.p)],rfl,?_,H,_,_,by lia,ho,rfl,rfl⟩;simp[eR,F,ea,ha,h]) ⟨[],none,none,by simp,λ_ h=>(by cases h),rfl,rfl⟩
 rw[dM]at E;obtain⟨z,hz0,hz1,hz2⟩:∃z:Int,0≤z/\z≤1/\bS [.bl (decide (3 < (r.length:Int)))]=some (.int z):=by
  by_cases h:3 < (r.length:Int)
  .exact⟨1,by decide,by decide,by simp[h,bS,jT]⟩
  .exact⟨0,by decide,by decide,by simp[h,bS,jT]⟩
 obtain⟨Q,hsl,hsd,e5⟩:=y0 (n:=n+1) (by lia) B (s:=s) y hw hr J (m:=2+z) (by lia) (by lia);obtain⟨R,hwh,e6⟩:=Ci (n:=n+1) (by lia) (w % 27000) d;obtain⟨r1,hr1,e7⟩:=dL A (w / 27000);obtain⟨r2,hr2,e8⟩:=dL A (w / 216000);have hl:=len_pos A;refine⟨r1,R,o,p,Q,r2,⟨hr1,hr2,U ▸ hwh,htk,by lia,U ▸ hM ▸ X,hsl,U ▸ hM ▸ hsd⟩,?_⟩;rw[rZ,aj];simp only[F]at e4;simp[lf,bo,W,tD J,lG,e1,e2,iq,e3,e4,j,cB,dq,hz2,e5,e6,hl,e7,e8,dP]
def rV(s:Str)(r c u l:List P)(v:P):Prop:=∃x a w t h n m,(PyData.strOk x=true/\x.length≤100)/\Stp s r c u l a w t h n m/\v=.tup [.str x,a,w,t,.lst h,.lst n,m]
structure Fam(rs:List P)(nm:Str)(crew:Nat)(rooms cells whos steps:List P):Prop where
 hnm:PyData.strOk nm=true
 hcr:1≤crew/\crew≤4
 hro:∀x ∈ rooms,jo x
 r0:rooms≠[]
 hce:uM cells
 cl:cells.length≤3
 hwh:∀x ∈ whos,jo x
 wl:whos.length≤2
 s0:steps≠[]
 sl:steps.length≤8
 hst:∀x ∈ steps,rV nm rooms cells whos rs x
def fg(l:List P)(v:P):Prop:=∃n e r c u s,Fam l n e r c u s/\v=.tup [.str n,.int (e:Int),.lst r,.lst c,.lst u,.lst s]
theorem nZ(p:3≤n)(s:List Int)(j:Nat)(o:Nat)(L:Lc)(c:j < L.length)(r:L[0]? = some (qp (cL s)))(h:0≠j)(l:o+m≤16)(S:aD) :
  ∃a,bA (ak j) ir (ah (pureOf (Ph n "_law_name")) (v2 (vv 0) (ac au (vi (o:Int)) (vv j)))) (Ev.intsFrom 0 m) L S=some (a,S)/\(∀y ∈ a,jo y)/\a.length=(Ev.intsFrom 0 m).length:=by
 refine kJ (Inv:=λf=>∃d,f=L.set j d) (λv q f t=>?_) ⟨L[j],(jz c).symm⟩;obtain⟨d,rfl⟩:=t;obtain⟨i,rfl,u⟩:=f6 q;obtain⟨x,w,_,e⟩:=na p s (k:=o+i) (by lia);have e:pureOf (Ph n "_law_name") [cL s,.int ((o:Int)+(i:Int))]=some (.str x):=by rw[<- e];rfl
 have g:((L.set j d).set j (qi (0+(i:Int))))[j]? = some (qi (0+(i:Int))):=by rw[dX (by simpa using c)]
 have b:((L.set j d).set j (qi (0+(i:Int))))[0]? = some (qp (cL s)):=by rw[aX (Ne.symm h),aX (Ne.symm h)];exact r
 simp only[eD]at g b ⊢;exact⟨_,.str x,rfl,⟨_,List.set_set ..⟩,by simp[-List.set_set,g,b,e],x,w,rfl⟩
theorem E8(A:2≤n)(s:List Int)(f:Int)(D:0≤f)(E:f < 900)(L:Lc)(P:L.length=14)(F:L[0]? = some (qp (cL s)))(x:L[12]? = some (qi f))(S:aD) :
  ∃l z o H:Int,bA (ak 13) ir (ah (pureOf (Ph n "_law_mix")) (v2 (ah (pureOf (Ph n "_law_cell_at")) (v2 (vv 0) (ac au (vi 5) (ac aO (ac au (vv 12) (vv 13)) (vi 24))))) (ac au (ac au (vi 11) (vv 12)) (vv 13)))) (Ev.intsFrom 0 4) L S=some ([.int l,.int z,.int o,.int H],S):=by
 obtain⟨C,e,y,h⟩:=kJ (Q:=fun v=>∃d:Int,v=.int d) (g:=ak 13) (e:=ah (pureOf (Ph n "_law_mix")) (v2 (ah (pureOf (Ph n "_law_cell_at")) (v2 (vv 0) (ac au (vi 5) (ac aO (ac au (vv 12) (vv 13)) (vi 24))))) (ac au (ac au (vi 11) (vv 12)) (vv 13)))) (S:=S) (s:=Ev.intsFrom 0 4) (Inv:=fun m=>∃d,m=L.set 13 d) (L:=L) (fun v B m K=>by
  obtain⟨d,rfl⟩:=K;obtain⟨i,rfl,G⟩:=f6 B;obtain⟨c,r,I,t,q⟩:=gH A s (k:=5+(f+(0+(i:Int))) % 24) (p:=11+f+(0+(i:Int))) (by lia) (by lia) (by lia);have w:((L.set 13 d).set 13 (qi (0+(i:Int))))[13]? = some (qi (0+(i:Int))):=by rw[dX (by simp[P])]
  have u:((L.set 13 d).set 13 (qi (0+(i:Int))))[0]? = some (qp (cL s)):=by rw[aX (by decide),aX (by decide)];exact F
  have j:((L.set 13 d).set 13 (qi (0+(i:Int))))[12]? = some (qi f):=by rw[aX (by decide),aX (by decide)];exact x
  simp only[eD]at w u j t q ⊢;exact⟨_,.int r,rfl,⟨_,List.set_set ..⟩,by simp[-List.set_set,w,u,j,t,q],r,rfl⟩) ⟨L[13]'(by lia),(jz (by lia)).symm⟩
 rw[br]at h;match C,h with
 | [a,b,c,d],_=>obtain⟨a,rfl⟩:=y a (by simp);obtain⟨b,rfl⟩:=y b (by simp);obtain⟨c,rfl⟩:=y c (by simp);obtain⟨d,rfl⟩:=y d (by simp);exact⟨a,b,c,d,e⟩
theorem x6(hn:5≤n)(y:List Int)(k:Nat)(hk:k≤3)(hnm:PyData.strOk I=true)(w:Nat)(hcr:1≤w/\w≤4)(wide:Bool)(hr:∀c ∈ l,gn c)(hrl:l.length≤8) :
  ∃v,fg l v/\(∃tl,v=.tup (.str I::.int (w:Int)::tl))/\pureOf (Ph n "_law_family") [cL y,.int (k:Int),.str I,.int (w:Int),.bl wide,.lst l]=some v:=by
 obtain⟨n,rfl⟩:=gp (n:=n) (by first|assumption|lia);obtain⟨z,t,hz0,hz1,C,ht1,ez,et⟩:∃z t:Int,0≤z/\z≤1/\0 < t/\t≤8/\bS [.bl wide]=some (.int z)/\L2.atI [P.int 3,.int 8] z=some (.int t):=by
  cases wide
  .exact⟨0,3,by decide,by decide,by decide,by decide,by simp[bS,jT],by simp⟩
  .exact⟨1,8,by decide,by decide,by decide,by decide,by simp[bS,jT],by simp⟩
 obtain⟨e,hcl,hc,ec⟩:=AG (n:=n+1) (by lia) y (f:=(k:Int)) (m:=2+z) (by lia) (by lia) (by lia);obtain⟨X,e91⟩:=sL (n:=n+1) (by lia) y (k:=2+(k:Int)) (by lia);obtain⟨G,ha9,e92⟩:=rM (n:=n+1) (by lia) X (p:=9) (by lia) (by lia);obtain⟨K,ha8,Z⟩:=rM (n:=n+1) (by lia) X (p:=8) (by lia) (by lia);obtain⟨R,ha7,Y⟩:=rM (n:=n+1) (by lia) X (p:=7) (by lia) (by lia);have h9a:0≤G % t:=dw _ (by lia);have h9b:G % t < t:=d5 _ C;have h7a:0≤R % t:=dw _ (by lia);have h7b:R % t < t:=d5 _ C;have h8a:0≤K % (2+z):=dw _ (by lia);have h8b:K % (2+z) < 2+z:=d5 _ (by lia);let A:List (Option D):=[qp (cL y),qi (k:Int),qs I,qi (w:Int),qp (.bl wide),ql l]
 obtain⟨r,er,Q,o⟩:=nZ (n:=n+1) (by lia) y 11 4 (A++[ql e,qi G,none,none,none,none,none]) (by simp[A]) rfl (by decide) (m:=(1+G % t).toNat) (by lia) [];obtain⟨u,ew,hw,hwl⟩:=nZ (n:=n+1) (by lia) y 11 10 (A++[ql e,qi K,ql r,none,none,none,none]) (by simp[A]) rfl (by decide) (m:=(K % (2+z)).toNat) (by lia) [];rw[br]at o hwl;have O:r≠[]:=λq=>by rw[q]at o;simp at o;lia
 let F:Option D->Option D->Option D->Lc:=λJ a d=>A++[ql e,J,ql r,ql u,qr 0,a,d]
 let Inv:Nat->Lc->aD->Prop:=λi L S=>∃(E:List P)(J a d:Option D),E.length=i/\(∀c ∈ E,rV I r e u l c)/\L=F J a d/\S=[.lst (E.map .p)]
 obtain⟨L',S',e4,stp,J,a,d,B,hst,rfl,rfl⟩:=bf (g:=ak 11) (b:=fG (Ph (n+1)) (Ph n)) (Inv:=Inv) (s:=Ev.intsFrom 0 (1+R % t).toNat) (k:=0) (L:=F (qi K) none none) (S:=[.lst []]) (fun i v L S hv hI=>by
   obtain⟨rfl,hi⟩:=ints_get hv;obtain⟨E,J,a,d,hc1,ho,rfl,rfl⟩:=hI;simp only[eD];have m1:fJ 8 (k:Int)=true:=bw (by decide) (by lia);have m2:fJ 4 (8 * (k:Int)+(i:Int))=true:=bw (by decide) (by lia);obtain⟨d0,d1,d2,d3,ed⟩:=E8 (n:=n+1) (by lia) y (4 * (8 * (k:Int)+(i:Int))) (by lia) (by lia) (F J (qi (i:Int)) (qi (4 * (8 * (k:Int)+(i:Int))))++[none]) rfl rfl rfl [.lst (E.map .p)];obtain⟨x,hx,hxl,ex⟩:=na (n:=n+1) (by lia) y (k:=8+i) (by lia);have ex:pureOf (Ph (n+1) "_law_name") [cL y,.int (8+(i:Int))]=some (.str x):=by rw[<- ex];rfl
   obtain⟨T,W,V,j,U,H,hys,es⟩:=Bm (n:=n+1) (by lia) d0 d1 d2 d3 (s:=I) Q O hc.1 (by lia) hw hr hrl;have N:E.length≤1000000:=by lia
   have M:au (.tup [.str x]) (.tup [T,W,V,.lst j,.lst U,H])=some (.tup [.str x,T,W,V,.lst j,.lst U,H]):=rfl;refine⟨_,F (ql [.int d0,.int d1,.int d2,.int d3]) (qi (i:Int)) (qi (4 * (8 * (k:Int)+(i:Int)))),[.lst ((E++[P.tup [.str x,T,W,V,.lst j,.lst U,H]]).map D.p)],rfl,?_,_,_,_,_,by simp;lia,cz ho ⟨x,T,W,V,j,U,H,⟨hx,hxl.2⟩,hys,rfl⟩,rfl,rfl⟩;rw[<- cH];simp only[F,A,qM,ij]at ed;simp[fG,F,A,m1,m2,bo,br,lG,ed,ex,es,M,dD,N]) ⟨[],_,none,none,rfl,λ_ h=>(by cases h),rfl,rfl⟩
 rw[br]at B;refine⟨_,⟨I,w,r,e,u,stp,⟨hnm,hcr,Q,O,hc,by lia,hw,by lia,λq=>by rw[q]at B;simp at B;lia,by lia,hst⟩,rfl⟩,⟨_,rfl⟩,?_⟩;have hz2:0 < 2+z:=by lia
 have q1:(1+G % t).natAbs < 1000000:=by lia
 have q2:(1+R % t).natAbs < 1000000:=by lia
 have q3:(K % (2+z)).natAbs < 1000000:=by lia
 have q4:(1+G % t).toNat≤1000000:=by lia
 have q5:(K % (2+z)).toNat≤1000000:=by lia
 rw[oC,aj];simp only[F,A,qM,ij]at e4 er ew;simp only[show((4:Nat):Int)=4 from rfl]at er;simp only[show((10:Nat):Int)=10 from rfl]at ew;simp[jV,ez,et,ec,e91,e92,Z,Y,C,hz2,q1,q2,q3,q4,q5,bo,br,lG,er,ew,e4]
theorem tM(K:3≤n)(c:List Int)(j:Nat)(L:Lc)(o:j < L.length)(H:L[0]? = some (qp (cL c)))(b:0≠j)(A:m≤16)(S:aD) :
  ∃q,bA (ak j) ir (ah (pureOf (Ph n "_law_name")) (v2 (vv 0) (vv j))) (Ev.intsFrom 0 m) L S=some (q,S)/\(∀y ∈ q,jo y)/\(∀(i:Nat) y,q[i]? = some y->∃x,y=.str x/\hd x=some (97+i))/\q.length=(Ev.intsFrom 0 m).length:=by
 let f:P->P:=λv=>(pureOf (Ph n "_law_name") [cL c,v]).getD .non
 have w:∀i,i < m->∃x,PyData.strOk x=true/\hd x=some (97+i)/\pureOf (Ph n "_law_name") [cL c,.int (i:Int)]=some (.str x)/\f (.int (i:Int))=.str x:=λi e=>by obtain⟨x,t,⟨u,_⟩,r⟩:=na K c (k:=i) (by lia);exact⟨x,t,u,r,by simp[f,r]⟩
 refine⟨(Ev.intsFrom 0 m).map f,?_,λy a=>?_,λi y a=>?_,by simp⟩
 .rw [di (p:=λ_=>true) (f:=f) (Inv:=λg=>∃d,g=L.set j d) (λv h g F=>?_) ⟨L[j],(jz o).symm⟩,qT.mpr λ_ _=>rfl];obtain⟨d,rfl⟩:=F;obtain⟨i,rfl,e⟩:=f6 h;obtain⟨x,t,_,r,s⟩:=w i e;have l:((L.set j d).set j (qi (0+(i:Int))))[j]? = some (qi (0+(i:Int))):=by
   rw[dX (by simpa using o)]
  have z:((L.set j d).set j (qi (0+(i:Int))))[0]? = some (qp (cL c)):=by rw[aX (Ne.symm b),aX (Ne.symm b)];exact H
  simp only[eD]at l z ⊢;exact⟨_,rfl,⟨_,List.set_set ..⟩,rfl,λ_=>by rw[s];simp[-List.set_set,l,z,r]⟩
 .obtain⟨v,h,rfl⟩:=cN.mp a;obtain⟨i,rfl,e⟩:=f6 h;obtain⟨x,t,_,_,s⟩:=w i e;rw[eD,s];exact⟨x,t,rfl⟩
 .rw [List.getElem?_map]at a;cases h:(Ev.intsFrom 0 m)[i]? with
  |none=>rw[h]at a;cases a
  |some v=>rw[h]at a;cases a;obtain⟨rfl,e⟩:=ints_get h;obtain⟨x,_,u,_,s⟩:=w i e;exact⟨x,by rw[eD,s],u⟩
noncomputable def gu:P->Nat
 | .tup (_::.int c::_)=>c.toNat
 |_=>0
def z3(v:P):Prop:=∃(k f s:Str),(k="weak"\/k="strong")/\PyData.strOk f=true/\PyData.strOk s=true/\v=.tup [.str k,.str f,.str s]
structure Pln(fams roads wishes:List P):Prop where
 hf:∀f ∈ fams,fg roads f
 cr:∃c,(∀f ∈ fams,gu f≤c)/\fams.length * c≤4
 f0:1≤fams.length/\fams.length≤4
 hr:∀r ∈ roads,gn r
 ra:∀r ∈ roads,(∃f ∈ fams,a9 f=rA r)/\∃f ∈ fams,a9 f=rB r
 rl:roads.length≤8
 hw:∀w ∈ wishes,z3 w
 wl:wishes.length≤6
 rd:roads.Pairwise RD
theorem xf(f:h->a)(x:List h)(i:Int):L2.atI (x.map f) i=(L2.atI x i).map f:=by
 unfold L2.atI;rw[a7];cases L2.vw x.length i with
 |none=>rfl
 |some j=>simp
theorem BF(hn:6≤n)(U:List Int):∃l H y,Pln l H y/\pureOf (Ph n "_law_plan") [cL U,.int 3]=some (.tup [.lst l,.lst H,.lst y]):=by
 obtain⟨n,rfl⟩:=gp (n:=n) (by first|assumption|lia);obtain⟨o,e0⟩:=sL (n:=n+1) (by lia) U (k:=0) (by lia);generalize hwd:decide (o / 64 % 8=1)=wide;obtain⟨z,t,hz0,hz1,Y,ht1,ez,et⟩:∃z t:Int,0≤z/\z≤1/\0 < t/\t≤4/\bS [.bl wide]=some (.int z)/\L2.atI [P.int 2,.int 4] z=some (.int t):=by
  cases wide
  .exact⟨0,2,by decide,by decide,by decide,by decide,by simp[bS,jT],by simp⟩
  .exact⟨1,4,by decide,by decide,by decide,by decide,by simp[bS,jT],by simp⟩
 have hm0:0≤o % t:=dw _ (by lia);have hm1:o % t < t:=d5 _ Y;obtain⟨m,hm⟩:∃m:Nat,1+o % t=(m:Int):=⟨(1+o % t).toNat,by lia⟩;have hm2:1≤m/\m≤4:=by lia
 obtain⟨K,en,hnm,hnh,hnl⟩:=tM (n:=n+1) (by lia) U 8 [qp (cL U),qi 3,qi o,qp (.bl wide),qi (m:Int),none,none,none,none,none,none,none,none,none] (by simp) rfl (by decide) (m:=m) (by lia) [];rw [br] at hnl;obtain⟨H,⟨hrl,hr,hrd⟩,er⟩:=y9 (n:=n+1) (by lia) U hnm (fun i j x h1 h2=>by
  obtain⟨a,rfl,ha⟩:=hnh i _ h1;obtain⟨b,e,hb⟩:=hnh j _ h2;cases e;rw[ha]at hb;have:=Option.some.inj hb
  lia) (by lia) (m:=2+z) (by lia) (by lia)
 obtain⟨b,hb0,hb1,hbm,eb⟩:∃b:Int,0 < b/\b≤4/\m * b.toNat≤4/\L2.atI [P.int (3+z),.int 2,.int 1,.int 1] ((m:Int)-1)=some (.int b):=by
  have:m=1\/m=2\/m=3\/m=4:=by lia
  rcases this with rfl|rfl|rfl|rfl
  .exact⟨3+z,by lia,by lia,by lia,by simp⟩
  .exact⟨2,by decide,by decide,by decide,by simp⟩
  .exact⟨1,by decide,by decide,by decide,by simp⟩
  .exact⟨1,by decide,by decide,by decide,by simp⟩
 let F:Option D->Option D->Option D->Option D->Option D->Option D->Lc:=λR V B q11 N O=>[qp (cL U),qi 3,qi o,qp (.bl wide),qi (m:Int),ql K,ql H,qr 0,R,V,B,q11,N,O]
 let Inv:Nat->Lc->aD->Prop:=λi L S=>∃(I:List P)(R V B:Option D),I.length=i/\(∀c ∈ I,fg H c/\gu c≤b.toNat)/\(∀j x,K[j]? = some x->j < i->∃f ∈ I,x=.str (a9 f))/\L=F R V B none none none/\S=[.lst (I.map .p)]
 obtain⟨L',S',e1,l,R,V,B,hfl,X,hfn,rfl,rfl⟩:=bf (g:=aK [ak 8,ak 9]) (b:=gy (Ph (n+1)) (Ph n)) (Inv:=Inv) (s:=a_ 0 K) (k:=0) (L:=F none none none none none none) (S:=[.lst []]) (fun i v L S hv hI=>by
   obtain⟨x,Z,rfl⟩:=eI hv;have hi:=aW Z;obtain⟨nm,hnm1,rfl⟩:=hnm x (bL Z);obtain⟨I,R,V,B,hc,ho,hon,rfl,rfl⟩:=hI;obtain⟨a,ha,ea⟩:∃a:Int,(0 < a/\a < 1152921504606846976)/\L2.atI [P.int 4,.int 12,.int 16,.int 16] (i:Int)=some (.int a):=by
    have:i=0\/i=1\/i=2\/i=3:=by lia
    rcases this with rfl|rfl|rfl|rfl
    .exact⟨4,by decide,by simp⟩
    .exact⟨12,by decide,by simp⟩
    .exact⟨16,by decide,by simp⟩
    .exact⟨16,by decide,by simp⟩
   have hb2:0≤o / a % b:=dw _ (by lia);have hb3:o / a % b < b:=d5 _ hb0;obtain⟨cr,hcr⟩:∃cr:Nat,1+o / a % b=(cr:Int):=⟨(1+o / a % b).toNat,by lia⟩;obtain⟨v,hv2,⟨tl,hv3⟩,ev⟩:=x6 (n:=n+1) (by lia) U i (by lia) hnm1 cr (by lia) wide (λr h=>(hr r h).1) hrl;have M:I.length≤1000000:=by lia
   refine⟨_,F (qi (i:Int)) (qs nm) (qi (cr:Int)) none none none,[.lst ((I++[v]).map D.p)],rfl,?_,_,_,_,_,by simp;lia,cz ho ⟨hv2,?_⟩,λj x hj hji=>?_,rfl,rfl⟩
   .rw [<- cH];simp[gy,F,ea,ha,ez,eb,hb0,hcr,ev,dD,M]
   .rw [hv3];simp[gu];lia
   .by_cases hjj:j < i
    .obtain⟨f,W,e⟩:=hon j x hj (by lia);exact⟨f,ky _ W,e⟩
    .have:j=i:=by lia
     subst this;rw[Z]at hj;cases hj;exact⟨v,by simp,by rw[hv3];rfl⟩) ⟨[],none,none,none,rfl,λ_ h=>(by cases h),λ_ _ _ h=>(by lia),rfl,rfl⟩
 have Q:l.length=m:=by rw[hfl,dM,hnl];lia
 have hf0:l≠[]:=λq=>by rw[q]at Q;simp at Q;lia
 have T:∀x ∈ K,∃f ∈ l,x=.str (a9 f):=λx hx=>by obtain⟨j,hj,e⟩:=nB.mp hx;exact hfn j x (by rw[dY hj,e]) (by rw[dM];lia)
 let Inv3:Nat->Lc->aD->Prop:=λi L S=>∃(I:List P)(R N O:Option D),I.length=i/\(∀c ∈ I,z3 c)/\L=F R V B (qr 1) N O/\S=[.lst (l.map .p),.lst (I.map .p)]
 obtain⟨w,hw0,hw1,ew⟩:∃w:Int,0≤w/\w≤1/\bS [.bl (wide && decide (o % 3=1))]=some (.int w):=by
  cases (wide && decide (o % 3=1))
  .exact⟨0,by decide,by decide,rfl⟩
  .exact⟨1,by decide,by decide,rfl⟩
 obtain⟨L',S',e2,y,q8',N,O,hwl,hwi,rfl,rfl⟩:=bf (g:=ak 8) (b:=gw (Ph (n+1)) (Ph n)) (Inv:=Inv3) (s:=Ev.intsFrom 0 (o / 48 % 3+4 * w).toNat) (k:=0) (L:=F R V B (qr 1) none none) (S:=[.lst (l.map .p),.lst []]) (fun i v L S hv hI=>by
   obtain⟨rfl,hi⟩:=ints_get hv;obtain⟨I,R,N,O,hc,ho,rfl,rfl⟩:=hI;simp only[eD];obtain⟨c,d,hd,e3,e4⟩:=gH (n:=n+1) (by lia) U (k:=4) (p:=20+(i:Int)) (by lia) (by lia) (by lia);obtain⟨f,W,ef⟩:=dL hf0 d;rw[Q]at ef;obtain⟨nm,J,E,C,u,A,G,rfl⟩:=(X f W).1;obtain⟨s,hs,es⟩:=dL G.s0 (d / 8);have hls:=len_pos G.s0;obtain⟨x,rm,wh,tk,chg,sn,rm2,⟨hx,_⟩,hys,rfl⟩:=G.hst s hs;obtain⟨mk,hmk,emk⟩:=nU (a:="weak") (b:="strong") (d / 4);have M:I.length≤1000000:=by lia
   have ef2:L2.atI (l.map D.p) (d % (m:Int))=qt [.str nm,.int (J:Int),.lst E,.lst C,.lst u,.lst A]:=by rw[xf,ef];rfl
   have hmp:(0:Int) < (m:Int):=by lia
   have hmp2:0 < m:=by lia
   refine⟨_,F (qi (i:Int)) V B (qr 1) (qi d) (qt [.str nm,.int (J:Int),.lst E,.lst C,.lst u,.lst A]),[.lst (l.map .p),.lst ((I++[P.tup [.str mk,.str nm,.str x]]).map D.p)],rfl,?_,_,_,_,_,by simp;lia,cz ho ⟨mk,nm,x,hmk,G.hnm,hx,rfl⟩,rfl,rfl⟩;rw[<- cH];have e5:L2.atI [P.str nm,.int (J:Int),.lst E,.lst C,.lst u,.lst A] 5=some (.lst A):=aY (by decide) rfl;simp[gw,F,e3,e4,hmp,hmp2,ef2,e5,emk,cB,dq,hls,es,dD,M]) ⟨[],_,none,none,rfl,λ_ h=>(by cases h),rfl,rfl⟩
 rw[br]at hwl;refine⟨l,H,y,⟨λf h=>(X f h).1,⟨b.toNat,λf h=>(X f h).2,by rw[Q];exact hbm⟩,by lia,λr h=>(hr r h).1,λr h=>⟨?_,?_⟩,hrl,hwi,by lia,hrd⟩,?_⟩
 .obtain⟨f,W,e⟩:=T _ (hr r h).2.1;exact⟨f,W,(P.str.inj e).symm⟩
 .obtain⟨f,W,e⟩:=T _ (hr r h).2.2;exact⟨f,W,(P.str.inj e).symm⟩
 have q1:(o / 48 % 3+4 * w).natAbs < 1000000:=by lia
 have q2:fJ 4 w=true:=bw (by decide) (by lia);have q3:m < 1000000:=by lia
 have q4:m≤1000000:=by lia
 have t0:toP 9 (.ref 0) [.lst (l.map .p),.lst (y.map .p)]=some (.lst l,[.fz (.lst l),.lst (y.map .p)]):=dP rfl;have t1:toP 9 (.ref 1) [.fz (.lst l),.lst (y.map .p)]=some (.lst y,[.fz (.lst l),.fz (.lst y)]):=dP rfl;rw[r9,aj];simp only[F]at e1 e2;cases wide
 .simp only[Bool.false_and]at ew;have hzw:z=w:=by rw[ez]at ew;cases ew;rfl
  subst hzw;simp[i8,e0,hwd,ez,et,Y,hm,q1,q2,q3,q4,bo,br,lG,en,er,e1,ew,e2,t0,t1]
 .simp only[Bool.true_and]at ew;simp[i8,e0,hwd,ez,et,Y,hm,q1,q2,q3,q4,bo,br,lG,en,er,e1,ew,e2,t0,t1]
end My
namespace My
open PySem L2 Ev
section
variable{q:List P}
def hw:Nat->List P->List (Nat×P)
 |_,[]=>[]
 |k,f::r=>List.replicate (gu f) (k,f)++hw (k+1) r
theorem fg.crew(h:fg q f):gu f≤4:=by obtain⟨n,c,r,a,w,s,x,rfl⟩:=h;simpa[gu] using x.hcr.2
theorem Ai:∀{a:List P}(k:Nat),(∀f ∈ a,fg q f)->(hw k a).length≤4 * a.length
 | [],k,_=>by simp[hw]
 |f::r,k,h=>by have:=Ai (a:=r) (k+1) λx e=>h x (a6 _ e);have c:=(h f List.mem_cons_self).crew;simp[hw];lia
theorem oo:∀{a:List P}{k:Nat}{x:Nat×P},x ∈ hw k a->∃j,x.1=k+j/\a[j]? = some x.2
 | [],k,x,h=>by simp[hw]at h
 |f::r,k,x,h=>by
  unfold hw at h;rcases dA.mp h with h|h
  .obtain⟨_,rfl⟩:=List.mem_replicate.mp h;exact⟨0,by simp,by simp⟩
  .obtain⟨j,s,e⟩:=oo h;exact⟨j+1,by lia,by simpa using e⟩
def homes(f:List P):List P:=(hw 0 f).map λx=>.int (x.1:Int)
def aA(f:List P):List P:=(hw 0 f).map (·.2)
theorem gK(S:aD)(x:SO):(S++[x])[S.length]? = some x:=by simp
theorem iB(k:Nat):((k+1:Nat):Int)=(k:Int)+1:=by lia
theorem wV(z y:Str->GF)(S:aD)(l:P):∀(m:List P)(k:Nat)(n:List P)(g i:Option D),(∀f ∈ m,fg q f)->n.length+4 * m.length≤1000 ->
  ∃t v,aR (aK [ak 2,ak 3]) (eZ z y) (a_ (k:Int) m) [qp l,qr S.length,g,i] (S++[.lst (n.map .p)])=some (.nx,[qp l,qr S.length,t,v],S++[.lst ((n++(hw k m).map λx=>P.int (x.1:Int)).map .p)])
 | [],k,n,g,i,_,_=>⟨g,i,by simp[a_,aR,hw]⟩
 |f::r,k,n,g,i,h,F=>by
  obtain⟨u,c,o,a,w,s,H,rfl⟩:=h f List.mem_cons_self;have A:=H.hcr.2;simp only[bt]at F;obtain⟨t,v,e⟩:=wV z y S l r (k+1) (n++List.replicate c (P.int (k:Int))) (qi (k:Int)) (qt [.str u,.int (c:Int),.lst o,.lst a,.lst w,.lst s]) (λx K=>h x (a6 _ K)) (by simp;lia);refine⟨t,v,?_⟩;have j:(hw k (.tup [.str u,.int (c:Int),.lst o,.lst a,.lst w,.lst s]::r)).map (λx=>P.int (x.1:Int))=List.replicate c (P.int (k:Int))++(hw (k+1) r).map (λx=>P.int (x.1:Int)):=by simp[hw,gu]
  rw[j,<- List.append_assoc];unfold a_;rw[iB]at e;refine(bR (s:=[qp l,qr S.length,qi (k:Int),qt [.str u,.int (c:Int),.lst o,.lst a,.lst w,.lst s]]) (L2:=[qp l,qr S.length,qi (k:Int),qt [.str u,.int (c:Int),.lst o,.lst a,.lst w,.lst s]]) (k:=S++[.lst ((n++List.replicate c (P.int (k:Int))).map .p)]) rfl ?_).trans e;have d:c≤1000000:=by lia
  have p:c < 1000000:=by lia
  have b:n.length+c≤1000000:=by lia
  simp[eZ,dD,d,p,b]
theorem C3(a:2≤n)(h:∀f ∈ s,fg q f)(l:s.length≤4)(r w:P)(S:aD):Ph n "families_of" [.p (.tup [.lst s,r,w])] S=some (.ref S.length,S++[.lst ((homes s).map .p)]):=by obtain⟨n,rfl⟩:=gp (n:=n) (by first|assumption|lia);obtain⟨k,b,e⟩:=wV (Ph (n+1)) (Ph n) S (.tup [.lst s,r,w]) s 0 [] none none h (by simp;lia);rw[mJ];simp only[ij,iJ]at e;have x:=e;rw[show((0:Nat):Int)=0 from rfl]at x;simp[cM,je,x,homes]
theorem Cb(x:2≤n)(h:∀f ∈ s,fg q f)(l:s.length≤4)(r w:P):pureOf (Ph n "families_of") [.tup [.lst s,r,w]]=some (.lst (homes s)):=by unfold pureOf;rw[List.map_cons,iJ,C3 x h l r w []];simp
def az(f:List P):LS:=(aA f).map a9
theorem jM(h:∀f ∈ s,fg q f)(a:f ∈ aA s):fg q f:=by unfold aA at a;obtain⟨x,n,rfl⟩:=cN.mp a;obtain⟨j,_,e⟩:=oo n;exact h _ (bL e)
noncomputable def ce(N:LS)(s:Str):List Nat:=(List.range N.length).filter λi=>decide (N[i]? = some s)
theorem wX:∀(xs:List P)(k:Nat),a_ (k:Int) xs=(List.range' k xs.length).map λi=>.tup [.int (i:Int),(xs[i-k]?).getD .non]
 | [],k=>rfl
 |x::r,k=>by
  unfold a_;have h:=wX r (k+1);rw[iB]at h;rw[h,bt,qO,List.map_cons];simp only[Nat.sub_self];congr 1;refine List.map_congr_left λi a=>?_
  have:=(List.mem_range'_1.mp a).1;rw[show i-k=(i-(k+1))+1 by lia,List.getElem?_cons_succ]
theorem C6(xs:List P):a_ 0 xs=(List.range xs.length).map λi=>.tup [.int (i:Int),(xs[i]?).getD .non]:=by have:=wX xs 0;rw[List.range_eq_range'];simpa using this
noncomputable def pr(road:P)(n o:Nat):P:=.tup [road,.int (n:Int),.int (o:Int)]
def wB(N:LS)(road:P):List P:=(ce N (rA road)).flatMap λn=>((ce N (rB road)).filter λo=>!decide (n=o)).map λo=>pr road n o
def cv(N:LS)(r:List P):List P:=r.flatMap (wB N)
noncomputable def cG(s:List Nat):List P:=s.map λ(i:Nat)=>P.int (i:Int)
theorem ee(N:LS)(s:Str):(ce N s).length≤N.length:=by unfold ce;exact aU (kz _ _) (by simp)
theorem rc(n:Nat)(road:P)(os:List Nat):((os.filter λo=>!decide (n=o)).map λo=>pr road n o).length≤os.length:=by rw[a7];exact kz _ _
theorem rD(N:LS)(road:P)(os:List Nat)(h:os.length≤16):∀(s:List Nat),(s.flatMap λn=>(os.filter λo=>!decide (n=o)).map λo=>pr road n o).length≤16 * s.length
 | []=>by simp
 |i::s=>by
  have:=rD N road os h s;have:=rc i road os
  simp only[jx,b_,bt];lia
theorem wT:∀{a:List P}(k:Nat),(∀f ∈ a,gu f≤e)->(hw k a).length≤a.length * e
 | [],k,_=>by simp[hw]
 |f::r,k,h=>by have:=wT (a:=r) (k+1) λx s=>h x (a6 _ s);have c:=h f List.mem_cons_self;simp[hw,Nat.add_mul];lia
theorem gM(h:Pln f e s):(aA f).length≤4:=by
 obtain⟨c,x,a⟩:=h.cr;have:=wT 0 x
 unfold aA;simp;lia
theorem ot(h:Pln f e s):(az f).length≤4:=by unfold az;rw[a7];exact gM h
end
section
variable{q:List P}
theorem Aj(h:e ∈ homes s):∃p f,e=.int ((p:Nat):Int)/\s[p]? = some f/\f ∈ aA s:=by unfold homes at h;obtain⟨x,a,rfl⟩:=cN.mp h;obtain⟨j,n,k⟩:=oo a;exact⟨x.1,x.2,rfl,by rw[n,fq];exact k,cN.mpr ⟨x,a,rfl⟩⟩
theorem xY(h:∀p x,s[p]? = some x->g (.int ((p:Nat):Int))=f x):(homes s).map g=(aA s).map f:=by
 unfold homes aA;rw[nq,nq];refine List.map_congr_left λx n=>?_
 obtain⟨j,e,a⟩:=oo n;exact h x.1 x.2 (by rw[e,fq];exact a)
theorem jQ(xs:List e):xs.filter (λ_=>true)=xs:=qT.mpr λ_ _=>rfl
theorem lP:(homes f).length=(aA f).length:=by simp[homes,aA]
theorem bF(h:xs[e]? = some s):L2.atI xs ((e:Nat):Int)=some s:=aY (by lia) (by simpa using h)
theorem zj(m:∀f ∈ s,fg q f)(r w:P)(S:aD):bA (ak 7) ir (ac ar (ac ar (ac ar (vv 0) (vi 0)) (vv 7)) (vi 0)) (homes s) [qt [.lst s,r,w],none,none,none,none,none,none,none] S=some ((az s).map .str,S):=by
 rw[di (p:=λ_=>true) (f:=λv=>match v with | .int i=>(match s[i.toNat]? with|some f=>.str (a9 f)|none=>.non)|_=>.non) (Inv:=λL=>∃d,L=[qt [.lst s,r,w],none,none,none,none,none,none,d]) (λv g L b=>?_) ⟨none,rfl⟩]
 .rw [jQ,xY (f:=λf=>.str (a9 f)) λp x j=>by simp[j]];simp[az]
 .obtain⟨d,rfl⟩:=b;obtain⟨p,f,rfl,n,h⟩:=Aj g;obtain⟨l,c,o,a,k,t,u,rfl⟩:=jM m h;have e:=bF n;exact⟨[qt [.lst s,r,w],none,none,none,none,none,none,qi (p:Int)],rfl,⟨_,rfl⟩,rfl,λ_=>by simp[e,n,a9]⟩
def oth(N:LS)(s:Str)(n:Nat):List Nat:=(ce N s).filter λo=>!decide (n=o)
theorem xG(N:LS)(a b:Str)(k:P)(c:Int)(x s:Bool)(l r:D)(o:Nat)(q n:Option D)(S:aD):bA (ak 7) (g8 (bV (aC pa (aa 7) (aa 4))) (bV (aC eC (eV (ac ar (vv 1) (vv 7))) (eV (ac ar (vv 3) (vi 1)))))) (vv 7) (Ev.intsFrom 0 N.length)
  [some l,ql (N.map .str),some r,qt [.str a,.str b,k,.int c,.bl x,.bl s],qi (o:Int),q,n,none] S=some (cG (oth N b o),S):=by
 rw[di (p:=λv=>match v with | .int i=>(!decide (o=i.toNat)) && decide (N[i.toNat]? = some b)|_=>false) (f:=id) (Inv:=λL=>∃d,L=[some l,ql (N.map .str),some r,qt [.str a,.str b,k,.int c,.bl x,.bl s],qi (o:Int),q,n,d]) (λv j L w=>?_) ⟨none,rfl⟩]
 .congr 2;unfold Ev.intsFrom cG oth ce;rw[List.filter_map,List.map_id,List.filter_filter];simp only[eD];congr 1
 .obtain⟨d,rfl⟩:=w;obtain⟨i,rfl,u⟩:=f6 j;simp only[eD];have g:N[i]? = some N[i]:=dY u;have e:L2.atI (N.map P.str) (i:Int)=some (.str N[i]):=bF (by rw[List.getElem?_map,g];rfl);refine⟨[some l,ql (N.map .str),some r,qt [.str a,.str b,k,.int c,.bl x,.bl s],qi (o:Int),q,n,qi (i:Int)],rfl,⟨_,rfl⟩,?_,λ_=>by simp⟩;by_cases h:o=i
  .simp [h]
  .have m:¬(i:Int)=(o:Int):=by lia
   have t:¬i=o:=λz=>h z.symm;simp[h,m,t,e,g];first|done|exact decide_eq_decide.mpr Iff.rfl
theorem BB(road:P)(n:Nat)(L:Lc)(l:L.length=8)(g:L[3]? = some (qp road))(x:L[4]? = some (qi (n:Int)))(os:List Nat)(S:aD):bA (ak 7) ir (aw (v3 (vv 3) (vv 4) (vv 7))) (cG os) L S=some (os.map λo=>pr road n o,S):=by
 rw[di (p:=λ_=>true) (f:=λv=>.tup [road,.int (n:Int),v]) (Inv:=λh=>∃d,h=L.set 7 d) (λv b h a=>?_) ⟨L[7],(jz (by lia)).symm⟩]
 .rw [jQ];unfold cG pr;rw[nq];rfl
 .obtain⟨d,rfl⟩:=a;have k:((L.set 7 d).set 7 (qp v))[7]? = some (qp v):=by rw[dX (by simp[l])]
  have e:((L.set 7 d).set 7 (qp v))[3]? = some (qp road):=by rw[aX (by decide),aX (by decide)];exact g
  have s:((L.set 7 d).set 7 (qp v))[4]? = some (qi (n:Int)):=by rw[aX (by decide),aX (by decide)];exact x
  exact⟨_,rfl,⟨_,List.set_set ..⟩,rfl,λ_=>by simp[-List.set_set,k,e,s]⟩
def mf(N:LS)(road:P)(n:Nat):List P:=if decide (N[n]? = some (rA road))=true then (oth N (rB road) n).map λo=>pr road n o else []
theorem xI(N:LS)(road:P)(o:Nat)(h:N.length≤16):(mf N road o).length≤16:=by
 unfold mf;split
 .have x:=rc o road (ce N (rB road));have a:=ee N (rB road);unfold oth;lia
 .simp
theorem KL(G E:Str->GF)(S:aD)(l:D)(N:LS)(y:N.length≤16)(v:gn road):∀(r:List Nat)(x:List P)(d w k:Option D),(∀i ∈ r,i < N.length)->x.length+16 * r.length≤50000 ->
  ∃q s n,aR (aK [ak 4,ak 5]) (eQ G E) (r.map λ(i:Nat)=>P.tup [.int (i:Int),((N.map P.str)[i]?).getD .non]) [some l,ql (N.map .str),qr S.length,qp road,d,w,k] (S++[.lst (x.map .p)]) =
   some (.nx,[some l,ql (N.map .str),qr S.length,qp road,q,s,n],S++[.lst ((x++r.flatMap (mf N road)).map .p)])
 | [],x,d,w,k,_,_=>⟨d,w,k,by simp[aR]⟩
 |i::r,x,d,w,k,F,R=>by
  simp only[bt]at R;have t:=xI N road i y;have K:=F i List.mem_cons_self;have z:N[i]? = some N[i]:=dY K;have H:((N.map P.str)[i]?).getD .non=.str N[i]:=by rw[List.getElem?_map,z];rfl
  rw[jx,<- List.append_assoc,List.map_cons,H];by_cases h:N[i]=rA road
  .have g:mf N road i=(oth N (rB road) i).map λo=>pr road i o:=by unfold mf;rw[z,h];simp
   rw[g]at t ⊢;obtain⟨q,s,n,e⟩:=KL G E S l N y v r (x++(oth N (rB road) i).map λo=>pr road i o) (qi (i:Int)) (qs (N[i])) (ql (cG (oth N (rB road) i))) (λj A=>F j (a6 _ A)) (by rw[b_];lia);refine⟨q,s,n,?_⟩;refine(bR (s:=[some l,ql (N.map .str),qr S.length,qp road,qi (i:Int),qs (N[i]),k]) rfl ?_).trans e;have p:x.length+(oth N (rB road) i).length≤1000000:=by rw[a7]at t;lia
   have f:(oth N (rB road) i).length≤1000000:=by lia
   have m:(cG (oth N (rB road) i)).length=(oth N (rB road) i).length:=by simp[cG]
   have T:N.length < 1000000:=by lia
   have C:N.length≤1000000:=by lia
   have u:=BB road i [some l,ql (N.map .str),qr S.length,qp road,qi (i:Int),qs (N[i]),ql (cG (oth N (rB road) i)),none] rfl rfl rfl (oth N (rB road) i) (S++[.lst (x.map .p)]);obtain⟨a,b,M,c,I,J,O,Q,B,_,_,rfl⟩:=v;have L:=xG N a b (.str M) c I J l (.ref S.length) i (qs (N[i])) k (S++[.lst (x.map .p)]);simp only[rA,rB]at h p f m u ⊢;simp[eQ,h,bo,cB,dq,T,C,br,lG,dD,m,f,p];simp[h]at L u;simp[L,u,m,f,p]
  .have g:mf N road i=[]:=by unfold mf;rw[z];simp[h]
   rw[g,List.append_nil];obtain⟨q,s,n,e⟩:=KL G E S l N y v r x (qi (i:Int)) (qs (N[i])) k (λj A=>F j (a6 _ A)) (by lia);refine⟨q,s,n,?_⟩;refine(bR (s:=[some l,ql (N.map .str),qr S.length,qp road,qi (i:Int),qs (N[i]),k]) rfl ?_).trans e;obtain⟨a,b,M,c,I,J,O,Q,B,_,_,rfl⟩:=v;simp only[rA]at h;simp[eQ,h]
end
section
variable{q:List P}
theorem jP(p:e->Bool)(f:e->List s):∀xs:List e,(xs.filter p).flatMap f=xs.flatMap λx=>if p x=true then f x else []
 | []=>rfl
 |x::r=>by
  by_cases h:p x=true
  .rw [uS h,jx,jx,jP p f r,if_pos h]
  .rw [uR h,jx,jP p f r,if_neg h,ij]
theorem DZ(N:LS)(road:P):(List.range N.length).flatMap (mf N road)=wB N road:=by unfold wB;rw[show ce N (rA road)=(List.range N.length).filter (λi=>decide (N[i]? = some (rA road))) from rfl,jP];rfl
theorem pT(N:LS)(road:P)(h:N.length≤16):(wB N road).length≤256:=by
 have x:=ee N (rA road);have a:=ee N (rB road);have:=rD N road (ce N (rB road)) (by lia) (ce N (rA road))
 unfold wB;lia
theorem LD(g u:Str->GF)(S:aD)(p:D)(N:LS)(d:N.length≤16):∀(o:List P)(a:List P)(t q e n:Option D),(∀r ∈ o,gn r)->a.length+256 * o.length≤10000 ->
  ∃w x s k,aR (ak 3) (jd g u) o [some p,ql (N.map .str),qr S.length,t,q,e,n] (S++[.lst (a.map .p)]) =
   some (.nx,[some p,ql (N.map .str),qr S.length,w,x,s,k],S++[.lst ((a++cv N o).map .p)])
 | [],a,t,q,e,n,_,_=>⟨t,q,e,n,by simp[aR,cv]⟩
 |road::o,a,t,q,e,n,l,H=>by simp only[bt]at H;obtain⟨x,s,k,v⟩:=KL g u S p N d (l road List.mem_cons_self) (List.range N.length) a q e n (λi z=>by simpa using z) (by simp;lia);have F:=pT N road d;obtain⟨f,b,c,m,y⟩:=LD g u S p N d o (a++wB N road) (qp road) x s k (λr h=>l r (a6 _ h)) (by rw[b_];lia);refine⟨f,b,c,m,?_⟩;rw[show cv N (road::o)=wB N road++cv N o by simp[cv],<- List.append_assoc];refine(bR (s:=[some p,ql (N.map .str),qr S.length,qp road,q,e,n]) rfl ?_).trans y;rw[DZ]at v;have j:=C6 (N.map P.str);rw[a7]at j;rw[<- j]at v;show cb _ _ _ _ _=_;simp only[bX];rw[show o8 (vv 1) [some p,ql (N.map .str),qr S.length,qp road,q,e,n] (S++[.lst (a.map .p)])=some (a_ 0 (N.map P.str),S++[.lst (a.map .p)]) by simp];exact v
theorem Hd(k:3≤n)(h:Pln y s f)(S:aD):Ph n "pairs_of" [.p (.tup [.lst y,.lst s,.lst f])] S=some (.ref S.length,S++[.lst ((cv (az y) s).map .p)]):=by
 obtain⟨n,rfl⟩:=gp (n:=n) (by first|assumption|lia);have:=h.rl
 have x:=Cb (n:=n+1) (by lia) h.hf h.f0.2 (.lst s) (.lst f);have a:=zj h.hf (.lst s) (.lst f) S;obtain⟨q,b,c,m,e⟩:=LD (Ph (n+1)) (Ph n) S (.p (.tup [.lst y,.lst s,.lst f])) (az y) (aU (ot h) (by decide)) s [] none none none none h.hr (by simp;lia);have l:(homes y).length≤1000000:=by rw[lP];have:=gM h;lia
 rw[rX];simp only[ij,iJ]at e;simp[cM,lb,x,bo,l,lG,a,e]
theorem FT(a b c d e f:P):L2.atI [a,b,c,d,e,f] 3=some d:=aY (by decide) rfl
theorem Ll(a b c d e f:P):L2.atI [a,b,c,d,e,f] 4=some e:=aY (by decide) rfl
end
def jX(S:aD)(j:Nat)(xs:List P):Prop:=S[j]? = some (.lst (xs.map .p))\/S[j]? = some (.fz (.lst xs))
variable{xs:List P}{m:List P}
theorem zM(h:xs.map D.p=m.map D.p):xs=m:=(List.map_inj_right (f:=D.p) λ_ _ h=>D.p.inj h).mp h
variable{S:aD}{j:Nat}
theorem jX.lt(h:jX S j xs):j < S.length:=by rcases h with h|h<;>exact(List.getElem?_eq_some_iff.mp h).1
theorem jX.frz(h:jX S j xs):toP 9 (.ref j) S=some (.lst xs,S.set j (.fz (.lst xs))):=by
 rcases h with h|h
 .exact dP h
 .have:S.set j (.fz (.lst xs))=S:=by
   obtain⟨a,x⟩:=List.getElem?_eq_some_iff.mp h;rw[<- x,jz]
  rw[this];simp[toP,h]
variable{L:Lc}
theorem jX.ix(h:jX S j xs){i:Int}(r:s L S=some (.ref j,S))(x:k L S=some (.int i,S))(e:L2.atI xs i=some f):mK s k L S=some (.p f,S):=by
 rw[jR,r,av,x,av];rcases h with h|h
 .simp only[h];rw[xf,e];rfl
 .simp only[h];show(L2.atI xs i).map _=_;rw[e];rfl
theorem jX.len(h:jX S j xs):cB (.ref j) S=some xs.length:=by rcases h with h|h<;>simp[cB,h,dq]
structure Fr(b:Nat)(S S':aD):Prop where
 len:S.length≤S'.length
 low:∀k o,k < b->S[k]? = some o->S'[k]? = some o\/∃xs,o=.lst (xs.map .p)/\S'[k]? = some (.fz (.lst xs))
 hi:∀k o,b≤k->S[k]? = some o->S'[k]? = some o
theorem Fr.refl(b:Nat)(S:aD):Fr b S S:=⟨Nat.le_refl _,λ_ _ _ h=>.inl h,λ_ _ _ h=>h⟩
variable{b:Nat}{x:aD}
theorem Fr.trans(h:Fr b S x)(g:Fr b x f):Fr b S f:=by
 refine⟨aU h.len g.len,λk o a e=>?_,λk o a e=>g.hi k o a (h.hi k o a e)⟩;rcases h.low k o a e with s|⟨xs,rfl,s⟩
 .exact g.low k o a s
 .rcases g.low k _ a s with s|⟨m,q,_⟩
  .exact .inr ⟨xs,rfl,s⟩
  .cases q
theorem Fr.app(b:Nat)(S T:aD):Fr b S (S++T):=by
 have y:∀k o,S[k]? = some o->(S++T)[k]? = some o:=λk o e=>by rw[List.getElem?_append_left (aW e)];exact e
 exact⟨by simp,λk o _ e=>.inl (y k o e),λk o _ e=>y k o e⟩
variable{k:Nat}
theorem Fr.set(h:Fr b S x)(s:b≤S.length)(n:S.length≤k)(o:SO):Fr b S (x.set k o):=by
 refine⟨by rw[dZ];exact h.len,λj u a e=>?_,λj u a e=>?_⟩
 .rw [aX (by lia)];exact h.low j u a e
 .have:=aW e;rw[aX (by lia)];exact h.hi j u a e
theorem Fr.frz(a:j < b)(h:jX S j xs):Fr b S (S.set j (.fz (.lst xs))):=by
 refine⟨by simp,λk o x e=>?_,λk o x e=>?_⟩
 .by_cases q:j=k
  .subst q;rw[dX h.lt];rcases h with h|h<;>(rw[h]at e;cases e)
   .exact .inr ⟨xs,rfl,rfl⟩
   .exact .inl rfl
  .rw [aX q];exact .inl e
 .rw [aX (by lia)];exact e
theorem Fr.trunc(h:Fr b S x):Fr b S (trunc S.length x):=by
 unfold Ev.trunc;split
 .refine⟨by rw[List.length_take];have:=h.len;lia,λk o a e=>?_,λk o a e=>?_⟩
  .rw [iP (aW e)];exact h.low k o a e
  .rw [iP (aW e)];exact h.hi k o a e
 .exact h
theorem jX.fr(h:Fr b S x)(g:jX S j xs):jX x j xs:=by
 by_cases a:j < b
 .rcases g with g|g
  .rcases h.low j _ a g with e|⟨m,q,e⟩
   .exact .inl e
   .have:xs=m:=zM (SO.lst.inj q);subst this;exact .inr e
  .rcases h.low j _ a g with e|⟨m,q,e⟩
   .exact .inr e
   .cases q
 .rcases g with g|g
  .exact .inl (h.hi j _ (by lia) g)
  .exact .inr (h.hi j _ (by lia) g)
def l_(S x:aD)(d:D)(m:List P):Prop:=d=.p (.lst m)\/∃k,S.length≤k/\d=.ref k/\jX x k m
variable{d:D}
theorem l_.toP(h:l_ S x d m)(f:Fr b S x)(e:b≤S.length):∃a,toP 9 d x=some (.lst m,a)/\Fr b S a:=by
 rcases h with rfl|⟨k,s,rfl,h⟩
 .exact⟨x,by simp,f⟩
 .exact⟨_,h.frz,f.set e s _⟩
variable{g:GF}{u:l8}{l:List D}
theorem oR(s:u L S=some (l,S))(k:g l S=some (d,x))(r:Fr b S x)(n:b≤S.length)(h:l_ S x d m):∃a,cq g u L S=some (.lst m,a)/\Fr b S a:=by obtain⟨c,e,f⟩:=h.toP r n;exact⟨_,by rw[pM,s,av,k,av,e,av],f.trunc⟩
theorem AK(a:u L S=some (l,S))(s:g l S=some (.p e,x))(f:Fr b S x):∃h,cq g u L S=some (e,h)/\Fr b S h:=
 ⟨_,by rw[pM,a,av,s,av];rfl,f.trunc⟩
structure BD where
 fams:List P
 roads:List P
 wishes:List P
 ks:List (List bz)
 vs:List D
def BD.N(B:BD):LS:=az B.fams
def BD.PR(B:BD):List P:=cv B.N B.roads
def fields:LS:=["families","homes","pairs","places","members"]
structure Bat(B:BD)(b i jh jp jl jm:Nat)(mk:List bz)(mv:List D)(S:aD):Prop where
 ins:S[i]? = some (.ins "Board" fields [.p (.lst B.fams),.ref jh,.ref jp,.ref jl,.ref jm])
 ho:jX S jh (homes B.fams)
 pr:jX S jp B.PR
 pl:S[jl]? = some (.dtt B.ks B.vs)
 me:S[jm]? = some (.dct mk mv)
 mm:∀s ∈ B.N,∃j,j < b/\bG (.inr s) mk mv=qr j/\jX S j (cG (ce B.N s))
 bi:i < b
 bh:jh < b
 bp:jp < b
 bl:jl < b
 bm:jm < b
 bs:b≤S.length
def Bd(B:BD)(b i:Nat)(S:aD):Prop:=∃t p c r v w,Bat B b i t p c r v w S
theorem Bat.fr{B:BD}{b i t p c r:Nat}{v:List bz}{w:List D}{S x:aD}(h:Bat B b i t p c r v w S)(f:Fr b S x):Bat B b i t p c r v w x where
 ins:=by rcases f.low i _ h.bi h.ins with e|⟨_,q,_⟩;exact e;cases q
 ho:=h.ho.fr f
 pr:=h.pr.fr f
 pl:=by rcases f.low c _ h.bl h.pl with e|⟨_,q,_⟩;exact e;cases q
 me:=by rcases f.low r _ h.bm h.me with e|⟨_,q,_⟩;exact e;cases q
 mm:=λs m=>by obtain⟨j,a,n,k⟩:=h.mm s m;exact⟨j,a,n,k.fr f⟩
 bi:=h.bi
 bh:=h.bh
 bp:=h.bp
 bl:=h.bl
 bm:=h.bm
 bs:=aU h.bs f.len
theorem Bd.fr{B:BD}{b i:Nat}{S x:aD}(h:Bd B b i S)(f:Fr b S x):Bd B b i x:=by obtain⟨t,p,c,r,v,w,h⟩:=h;exact⟨t,p,c,r,v,w,h.fr f⟩
theorem Bd.le{B:BD}{b i:Nat}{S:aD}(h:Bd B b i S):b≤S.length:=by obtain⟨t,p,c,r,v,w,h⟩:=h;exact h.bs
section
variable{B:BD}{b i t p c r:Nat}{v:List bz}{w:List D}{S:aD}{L:Lc}{o:EE}
theorem Bat.fld(h:Bat B b i t p c r v w S)(ho:o L S=some (.ref i,S))(a:aT Att "Board" f=true)(x:gR f fields [.p (.lst B.fams),.ref t,.ref p,.ref c,.ref r]=some d):d6 (aT Att) o f L S=some (d,S):=by rw[Cf,ho,av];simp only[h.ins];rw[if_pos a,x];rfl
end
theorem j8:aT Att "Board" "families"=true/\aT Att "Board" "homes"=true/\aT Att "Board" "pairs"=true/\aT Att "Board" "places"=true/\aT Att "Board" "members"=true:=by decide +kernel
theorem BX{a b c d e:D}:gR "families" fields [a,b,c,d,e]=some a/\gR "homes" fields [a,b,c,d,e]=some b/\gR "pairs" fields [a,b,c,d,e]=some c/\gR "places" fields [a,b,c,d,e]=some d/\gR "members" fields [a,b,c,d,e]=some e:=by
 have h:¬("families":Str)="homes":=by decide +kernel
 have x:¬("families":Str)="pairs":=by decide +kernel
 have s:¬("families":Str)="places":=by decide +kernel
 have k:¬("families":Str)="members":=by decide +kernel
 have f:¬("homes":Str)="pairs":=by decide +kernel
 have m:¬("homes":Str)="places":=by decide +kernel
 have r:¬("homes":Str)="members":=by decide +kernel
 have t:¬("pairs":Str)="places":=by decide +kernel
 have p:¬("pairs":Str)="members":=by decide +kernel
 have n:¬("places":Str)="members":=by decide +kernel
 simp[fields,gR,h,x,s,k,f,m,r,t,p,n]
section
variable{B:BD}{b i t p c r:Nat}{v:List bz}{w:List D}{S:aD}(h:Bat B b i t p c r v w S){L:Lc}{o:EE}(ho:o L S=some (.ref i,S))
include h ho
theorem Bat.families:d6 (aT Att) o "families" L S=some (.p (.lst B.fams),S):=h.fld ho j8.1 BX.1
theorem Bat.homes:d6 (aT Att) o "homes" L S=some (.ref t,S):=h.fld ho j8.2.1 BX.2.1
theorem Bat.pairs:d6 (aT Att) o "pairs" L S=some (.ref p,S):=h.fld ho j8.2.2.1 BX.2.2.1
theorem Bat.places:d6 (aT Att) o "places" L S=some (.ref c,S):=h.fld ho j8.2.2.2.1 BX.2.2.2.1
theorem Bat.members:d6 (aT Att) o "members" L S=some (.ref r,S):=h.fld ho j8.2.2.2.2 BX.2.2.2.2
theorem Bat.meth(m:M "Board" e=some g)(n:fields.contains e=false)(a:u L S=some (l,S)):dS M o e u L S=g (.ref i::l) S:=by rw[iA,ho,av];simp only[h.ins,m,n,a,av];rfl
end
@[simp] theorem Jn:¬("name":Str)="number"/\¬("plus":Str)="number"/\¬("plus":Str)="name"/\¬("minus":Str)="number"/\¬("minus":Str)="name"/\¬("minus":Str)="plus"/\¬("times":Str)="number"/\¬("times":Str)="name"/\¬("times":Str)="plus"/\¬("times":Str)="minus" /\
  ¬("not":Str)="true"/\¬("and":Str)="true"/\¬("and":Str)="not"/\¬("or":Str)="true"/\¬("or":Str)="not"/\¬("or":Str)="and"/\¬("is":Str)="true"/\¬("is":Str)="not"/\¬("is":Str)="and"/\¬("is":Str)="or" /\
  ¬("double":Str)="lose"/\¬("all":Str)="who"/\¬("any":Str)="who"/\¬("any":Str)="all"/\¬("weak":Str)="strong"/\¬("strong":Str)="weak"/\¬("heap":Str)="row"/\¬("row":Str)="heap":=by decide +kernel
theorem gN(h:xs.length+m.length≤1000000):au (.tup xs) (.tup m)=some (.tup (xs++m)):=by
 cases xs with
 |nil=>rfl
 |cons x r=>show(if (!(x::r).isEmpty && iC ((x::r).length+m.length))=true then some (P.tup ((x::r)++m)) else none)=_;rw[if_pos (by rw[Bool.and_eq_true,la];exact⟨rfl,h⟩)]
theorem oP(k:Nat):cut xs none (some (k:Int))=xs.take k:=by
 unfold cut;rw[HT.tz,HT.wx,mX,Nat.sub_zero];by_cases h:k≤xs.length
 .rw [Nat.min_eq_left h]
 .rw [Nat.min_eq_right (by lia),qB,List.take_of_length_le (by lia)]
theorem ut(k:Nat):cut xs (some (k:Int)) none=xs.drop k:=by
 unfold cut;rw[HT.tz,HT.wx];by_cases h:k≤xs.length
 .rw [Nat.min_eq_left h,List.take_of_length_le (by simp)]
 .rw [Nat.min_eq_right (by lia),qN,List.drop_of_length_le (by lia)];simp
theorem lX(k:Nat):cut xs (some ((k:Int)+1)) none=xs.drop (k+1):=ut (k+1)
theorem Ch(k:Nat):cut xs none (some ((k:Int)+1))=xs.take (k+1):=oP (k+1)
variable{n:Nat}
theorem nP(a:2≤n)(x:k < xs.length)(l:xs.length≤900000)(v:P):pureOf (Ph n "replaced") [.tup xs,.int (k:Int),v]=some (.tup (xs.set k v)):=by obtain⟨n,rfl⟩:=gp (n:=n) (by first|assumption|lia);have e:=gN (xs:=xs.take k) (m:=[v]) (by simp;lia);have h:=gN (xs:=xs.take k++[v]) (m:=xs.drop (k+1)) (by simp;lia);rw[gF,aj];simp[fF,oP,lX,e,-List.append_assoc];rw[h];simp[List.set_eq_take_append_cons_drop,x]
theorem CB(x:2≤n)(h:xs.length≤900000):pureOf (Ph n "without") [.tup xs,.int (k:Int)]=some (.tup (xs.eraseIdx k)):=by obtain⟨n,rfl⟩:=gp (n:=n) (by first|assumption|lia);have e:=gN (xs:=xs.take k) (m:=xs.drop (k+1)) (by simp;lia);rw[hU,aj];simp[f_,oP,lX,e,List.eraseIdx_eq_take_drop_succ]
def mq(l:P):Prop:=∃m i,PyData.strOk m=true/\i.natAbs≤999/\l=.tup [.str m,.int i]
theorem mq.ok(h:mq e):bC 1 e=true:=by obtain⟨m,i,x,_,rfl⟩:=h;simp[x]
def j_(s:List P):Prop:=s.length≤3/\∀l ∈ s,mq l
theorem Im{n:Nat}(b:3≤n){w:Str}(hw:w="lose"\/w="double"){xs:List P}{k:Nat}(x:j_ xs)(a:w="double"->xs.length≤2)(f:k < xs.length):∃m,j_ m/\pureOf (Ph n "flawed") [.str w,.tup xs,.int (k:Int)]=some (.tup m):=by
 obtain⟨n,rfl⟩:=gp (n:=n) (by first|assumption|lia);have:=x.1
 rcases hw with rfl|rfl
 .refine⟨xs.eraseIdx k,⟨aU (List.length_eraseIdx_le ..) this,λl h=>x.2 l (List.mem_of_mem_eraseIdx h)⟩,?_⟩;have e:=CB (n:=n+1) (by lia) (xs:=xs) (k:=k) (by lia);rw[gY,aj];simp[eY,e]
 .have s:=a rfl;refine⟨xs.take (k+1)++xs.drop k,⟨by simp;lia,λl h=>?_⟩,?_⟩
  .rcases dA.mp h with h|h
   .exact x.2 l (lz h)
   .exact x.2 l (qH h)
  .have e:=gN (xs:=xs.take (k+1)) (m:=xs.drop k) (by simp;lia);rw[gY,aj];simp[eY,Ch,ut,e]
theorem Ia{n:Nat}(g:2≤n){w:Str}(hw:w="lose"\/w="double"){r:P}(q:gn r)(xs:List P):∃b,(w="double"->b=true->xs.length≤2)/\pureOf (Ph n "has_flaw") [r,.str w,.tup xs]=some (.bl b):=by
 obtain⟨n,rfl⟩:=gp (n:=n) (by first|assumption|lia);obtain⟨a,b,k,c,x,d,v,u,p,m,t,rfl⟩:=q;have e:L2.atI [P.str a,.str b,.str k,.int c,.bl x,.bl d] 3=some (.int c):=aY (by decide) rfl;have s:L2.atI [P.str a,.str b,.str k,.int c,.bl x,.bl d] 4=some (.bl x):=aY (by decide) rfl;have f:L2.atI [P.str a,.str b,.str k,.int c,.bl x,.bl d] 5=some (.bl d):=aY (by decide) rfl;rcases hw with rfl|rfl
 .refine⟨x,λh=>?_,?_⟩
  .have:¬("lose":Str)="double":=by decide +kernel
   exact absurd h this
  .rw [fE,aj];simp[eA,s]
 .refine⟨d && decide ((xs.length:Int) < c),λ_ h=>?_,?_⟩
  .have:=(Bool.and_eq_true _ _ ▸ h).2;have:=aS this
   lia
  .rw [fE,aj];cases d<;>simp[eA,e,f,cB,dq]
theorem om(h:∀y ∈ xs,bC 19 y=true)(x:s ∈ xs):∃i:Nat,i < xs.length/\kE xs s=some i:=by
 unfold kE;have a:(xs.all (bC 19) && bC 19 s)=true:=by rw[Bool.and_eq_true];exact⟨bc.mpr h,h s x⟩
 rw[if_pos a];have m:pd s ∈ nV xs:=by
  clear a h;induction xs with
  |nil=>cases x
  |cons y r n=>
   rcases ba.mp x with rfl|x
   .exact List.mem_cons_self
   .exact a6 _ (n x)
 have e:PyData.eqv (pd s) (pd s)=true:=PySem.SeqAt.eqv_refl _ (hG 20 s (cc (h s x) (by lia))).1;cases q:(nV xs).findIdx? λz=>PyData.eqv z (pd s) with
 |none=>have:=List.findIdx?_eq_none_iff.mp q (pd s) m;rw[e]at this;cases this
 |some i=>
  refine⟨i,?_,rfl⟩;have:=(wc.mp q).1
  rwa [rH]at this
def B7(n:Nat)(y:P):Prop:=∃i:Nat,i < n/\y=.int (i:Int)
theorem CD(K:2≤n)(k:Str)(t:j_ xs):∃m:List P,m.length≤xs.length/\(∀y ∈ m,B7 xs.length y)/\pureOf (Ph n "unlike_spots") [.str k,.tup xs]=some (.lst m):=by
 obtain⟨n,rfl⟩:=gp (n:=n) (by first|assumption|lia);have H:=t.1;have r:xs.length < 1000000:=by lia
 have q:xs.length≤1000000:=by lia
 have a:∀y ∈ intsFrom 0 xs.length,B7 xs.length y:=λy s=>by obtain⟨i,rfl,a⟩:=f6 s;exact⟨i,a,by simp⟩
 by_cases b:k="row"
 .refine⟨intsFrom 0 xs.length,by rw[br];exact Nat.le_refl _,a,?_⟩;rw[df,aj];simp[cm,b,cB,dq,r]
 .obtain⟨m,e,u,f⟩:=j5 (g:=ak 3) (c:=bV (aC eC (eV (oW (vv 1) (ac ar (vv 1) (vv 3)))) (aa 3))) (e:=vv 3) (Q:=B7 xs.length) (S:=[]) (s:=intsFrom 0 xs.length) (L:=[qs k,qt xs,ql (intsFrom 0 xs.length),none]) (Inv:=fun L=>∃d,L=[qs k,qt xs,ql (intsFrom 0 xs.length),d]) (fun v o L l=>by
   obtain⟨d,rfl⟩:=l;obtain⟨i,h,rfl⟩:=a v o;have z:xs[i]? = some xs[i]:=dY h;have p:=bF z;obtain⟨j,F,w⟩:=om (xs:=xs) (s:=xs[i]) (λy s=>cc (t.2 y s).ok (by lia)) (gc _);exact⟨[qs k,qt xs,ql (intsFrom 0 xs.length),qi (i:Int)],decide ((j:Int)=(i:Int)),rfl,⟨_,rfl⟩,by simp[p,w],λ_=>⟨.int (i:Int),by simp,i,h,rfl⟩⟩) ⟨none,rfl⟩
  rw[br]at f;refine⟨m,f,u,?_⟩;rw[df,aj];simp[cm,b,cB,dq,r,q,bo,br,lG,e]
def ll(N:List P)(ks:List bz)(vs:List P):Prop:=∀x:Str,P.str x ∈ N->∃i:Int,i.natAbs≤999/\bG (.inr x) ks vs=some (.int i)
section
variable{N:List P}{ks:List bz}{vs:List P}
theorem pJ(h:2≤n)(k:Int):pureOf (Ph n "value_of") [lL k,.dct ks vs]=some (.int k):=by obtain⟨n,rfl⟩:=gp (n:=n) (by first|assumption|lia);rw[cJ,aj];simp[bI]
theorem pK(x:2≤n){i:Int}(h:bG (.inr e) ks vs=some (.int i)):pureOf (Ph n "value_of") [mG (.str e),.dct ks vs]=some (.int i):=by obtain⟨n,rfl⟩:=gp (n:=n) (by first|assumption|lia);rw[cJ,aj];simp[bI,h]
theorem Dz{n:Nat}(e:3≤n){a b:P}{i j:Int}(h:pureOf (Ph (n-1) "value_of") [a,.dct ks vs]=some (.int i))(x:pureOf (Ph (n-1) "value_of") [b,.dct ks vs]=some (.int j)):pureOf (Ph n "value_of") [.tup [.str "plus",a,b],.dct ks vs]=some (.int (i+j)):=by obtain⟨n,rfl⟩:=gp (n:=n) (by first|assumption|lia);rw[show n+2-1=n+1 by lia]at h x;rw[cJ,aj];simp[bI,h,x]
theorem wj{n:Nat}(e:3≤n){a b:P}{i j:Int}(h:pureOf (Ph (n-1) "value_of") [a,.dct ks vs]=some (.int i))(x:pureOf (Ph (n-1) "value_of") [b,.dct ks vs]=some (.int j)):pureOf (Ph n "value_of") [.tup [.str "minus",a,b],.dct ks vs]=some (.int (i-j)):=by obtain⟨n,rfl⟩:=gp (n:=n) (by first|assumption|lia);rw[show n+2-1=n+1 by lia]at h x;rw[cJ,aj];simp[bI,h,x]
theorem A9{n:Nat}(e:3≤n){a b:P}{i j:Int}(m:fJ i j=true)(h:pureOf (Ph (n-1) "value_of") [a,.dct ks vs]=some (.int i))(x:pureOf (Ph (n-1) "value_of") [b,.dct ks vs]=some (.int j)):pureOf (Ph n "value_of") [.tup [.str "times",a,b],.dct ks vs]=some (.int (i * j)):=by obtain⟨n,rfl⟩:=gp (n:=n) (by first|assumption|lia);rw[show n+2-1=n+1 by lia]at h x;rw[cJ,aj];simp[bI,h,x,m]
theorem nE(s:∀x ∈ N,jo x)(f:ll N ks vs){t:P}(h:oa N t){n:Nat}(p:4≤n):∃r:Int,pureOf (Ph n "value_of") [t,.dct ks vs]=some (.int r):=by
 rcases h with ⟨k,rfl⟩|⟨y,a,h⟩
 .exact⟨k,pJ (by lia) k⟩
 obtain⟨x,_,rfl⟩:=s y a;obtain⟨i,m,e⟩:=f x a;rcases h with rfl|⟨k,rfl⟩|⟨k,j,b,c,rfl⟩|rfl
 .exact⟨i,pK (by lia) e⟩
 .exact⟨_,Dz (by lia) (pK (by lia) e) (pJ (by lia) k)⟩
 .exact⟨_,wj (by lia) (A9 (by lia) (bw (i:=i) (j:=k) (by lia) (by lia)) (pK (by lia) e) (pJ (by lia) k)) (pJ (by lia) j)⟩
 .exact⟨_,wj (by lia) (pJ (by lia) 1) (pK (by lia) e)⟩
theorem Fd(k:2≤n)(w:Str)(i j:Int):∃b,pureOf (Ph n "compared") [.str w,.int i,.int j]=some (.bl b):=by
 obtain⟨n,rfl⟩:=gp (n:=n) (by first|assumption|lia);rw[gG,aj];by_cases h:w="="
 .simp [bK,h]
 by_cases x:w="!="
 .refine⟨!decide (i=j),?_⟩;simp[bK,h,eq_true x]
 by_cases a:w="<"
 .simp [bK,h,x,eq_true a]
 by_cases e:w="<="
 .simp [bK,h,x,a,eq_true e]
 by_cases s:w=">"
 .simp [bK,h,x,a,e,eq_true s]
 simp[bK,h,x,a,e,s]
theorem Am(h:2≤n):pureOf (Ph n "holds") [.tup [.str "true"],.dct ks vs]=some (.bl true):=by obtain⟨n,rfl⟩:=gp (n:=n) (by first|assumption|lia);rw[fj,aj];simp[dN]
theorem Ie{n:Nat}(s:6≤n)(w:Str){a b:P}{i j:Int}(h:pureOf (Ph (n-1) "value_of") [a,.dct ks vs]=some (.int i))(x:pureOf (Ph (n-1) "value_of") [b,.dct ks vs]=some (.int j)):∃r,pureOf (Ph n "holds") [.tup [.str "is",.str w,a,b],.dct ks vs]=some (.bl r):=by obtain⟨n,rfl⟩:=gp (n:=n) (by first|assumption|lia);rw[show n+2-1=n+1 by lia]at h x;obtain⟨r,e⟩:=Fd (n:=n+1) (by lia) w i j;refine⟨r,?_⟩;rw[fj,aj];simp[dN,h,x,e]
theorem Ic(x:3≤n)(h:pureOf (Ph (n-1) "holds") [e,.dct ks vs]=some (.bl s)):pureOf (Ph n "holds") [.tup [.str "not",e],.dct ks vs]=some (.bl !s):=by obtain⟨n,rfl⟩:=gp (n:=n) (by first|assumption|lia);rw[show n+2-1=n+1 by lia]at h;rw[fj,aj];simp[dN,h]
theorem Ig{n:Nat}(e:3≤n){a b:P}{r s:Bool}(h:pureOf (Ph (n-1) "holds") [a,.dct ks vs]=some (.bl r))(x:pureOf (Ph (n-1) "holds") [b,.dct ks vs]=some (.bl s)):pureOf (Ph n "holds") [.tup [.str "and",a,b],.dct ks vs]=some (.bl (r && s)):=by obtain⟨n,rfl⟩:=gp (n:=n) (by first|assumption|lia);rw[show n+2-1=n+1 by lia]at h x;rw[fj,aj];cases r<;>simp[dN,h,x]
theorem K8{n:Nat}(e:3≤n){a b:P}{r s:Bool}(h:pureOf (Ph (n-1) "holds") [a,.dct ks vs]=some (.bl r))(x:pureOf (Ph (n-1) "holds") [b,.dct ks vs]=some (.bl s)):pureOf (Ph n "holds") [.tup [.str "or",a,b],.dct ks vs]=some (.bl (r ||s)):=by obtain⟨n,rfl⟩:=gp (n:=n) (by first|assumption|lia);rw[show n+2-1=n+1 by lia]at h x;rw[fj,aj];cases r<;>simp[dN,h,x]
theorem Ak(k:∀x ∈ N,jo x)(f:ll N ks vs){t:P}(h:oj N t){n:Nat}(b:9≤n):∃r,pureOf (Ph n "holds") [t,.dct ks vs]=some (.bl r):=by
 have l:∀{t:P},i3 N t->∀{n:Nat},6≤n->∃r,pureOf (Ph n "holds") [t,.dct ks vs]=some (.bl r):=λ{t} h {n} b=>by obtain⟨w,y,s,c,d,_,rfl⟩:=h;obtain⟨x,_,rfl⟩:=k y c;obtain⟨i,_,a⟩:=f x c;obtain⟨j,v⟩:=nE k f d (n:=n-1) (by lia);exact Ie b w (pK (by lia) a) v
 rcases h with rfl|h|⟨p,h,rfl⟩|⟨p,z,h,m,rfl⟩
 .exact⟨_,Am (by lia)⟩
 .exact l h (by lia)
 .obtain⟨r,e⟩:=l h (n:=n-1) (by lia);exact⟨_,Ic (by lia) e⟩
 .obtain⟨r,e⟩:=l h (n:=n-1) (by lia);obtain⟨x,_,rfl⟩:=k z m;obtain⟨i,_,a⟩:=f x m;obtain⟨s,q⟩:=Ie (n:=n-1-1) (ks:=ks) (vs:=vs) (by lia) "=" (pJ (by lia) 1) (pK (by lia) a);exact⟨_,K8 (by lia) e (Ig (by lia) (Am (by lia)) q)⟩
end
def cT(a:List P):List bz:=a.map λc=>.inr (a9 c)
def CellsOk(a s:List P):Prop:=s.length=a.length/\∀c ∈ s,∃i:Int,i.natAbs≤999/\c=.int i
variable{a:List P}
theorem jJ(h:uM a):(cT a).Nodup:=by
 unfold cT;refine List.pairwise_iff_getElem.mpr λi j e s k q=>?_
 rw[a7]at e s;rw[List.getElem_map,List.getElem_map]at q;have x:=h.2 i _ (dY e);have n:=h.2 j _ (dY s);rw[jr q,n]at x;simp at x;lia
theorem vu(a:List P):cw (o5 a)=some (cT a):=by
 unfold o5 cT;induction a with
 |nil=>rfl
 |cons c r i=>simp[cw,cj,i]
theorem rQ:∀{a k:List P},CellsOk a k->ll (o5 a) (cT a) k
 | [],_,_=>λx h=>by cases h
 |c::r,[],h=>by have:=h.1;simp at this
 |c::r,d::s,h=>λx p=>by
  obtain⟨i,m,rfl⟩:=h.2 d List.mem_cons_self;show ∃i:Int,_/\(if (Sum.inr (a9 c):bz)=.inr x then some _ else bG (.inr x) (cT r) s)=_;by_cases e:a9 c=x
  .exact⟨i,m,by rw[if_pos (by rw[e])]⟩
  .have n:P.str x ∈ o5 r:=by
    rcases ba.mp p with q|q
    .exact absurd (P.str.inj q).symm e
    .exact q
   obtain⟨j,t,f⟩:=rQ (a:=r) (k:=s) ⟨by have:=h.1;simpa using this,λc b=>h.2 c (a6 _ b)⟩ x n;exact⟨j,t,by rw[if_neg λq=>e (jr q)];exact f⟩
theorem wf(v:2≤n)(h:Fam q H f s a y e)(c:CellsOk a z)(S:aD) :
  Ph n "values_of" [.p (.tup [.str H,.int (f:Int),.lst s,.lst a,.lst y,.lst e]),.p (.tup z)] S=some (.ref S.length,S++[.dct (cT a) (z.map .p)]):=by
 obtain⟨n,rfl⟩:=gp (n:=n) (by first|assumption|lia);have m:=h.cl;have p:a.length≤1000000:=by lia
 have x:(o5 a).length≤1000000:=by simp[o5];lia
 have b:=qo h.hce.1 [qt [.str H,.int (f:Int),.lst s,.lst a,.lst y,.lst e],qt z,none] 2 (by simp) S;have r:=jJ h.hce;have k:(cT a).length=z.length:=by rw[c.1];simp[cT]
 have l:(cT a).length≤z.length:=Nat.le_of_eq k;have t:z.take (cT a).length=z:=by rw[k,qB]
 rw[fU];simp[cM,eK,FT,bo,p,lG,b,vu,r,x,l,t,List.map_take];first|done|(rw[<- List.map_take,t])
theorem xo(k:2≤n)(x:Fam q H y s a z e)(h:CellsOk a f) :
  pureOf (Ph n "values_of") [.tup [.str H,.int (y:Int),.lst s,.lst a,.lst z,.lst e],.tup f]=some (.dct (cT a) f):=by
 unfold pureOf;rw[List.map_cons,List.map_cons,iJ,wf k x h []];have:rO (toP 8) (f.map .p) [SO.dct (cT a) (f.map .p)]=some (f,[SO.dct (cT a) (f.map .p)]):=kY ..;simp[toP,this]
end My
namespace My
open PySem L2 Ev
variable{L:Lc}{S:aD}
theorem al(h:a L S=some (.nx,e,b)):af a g L S=g e b:=by rw[m9,h]
theorem rh(h:a L S=some (.rt d,e,b)):af a g L S=some (.rt d,e,b):=by rw[m9,h]
noncomputable def GK(a b:Bool):Nat->Nat->Option Bool
 |0,0=>some false
 |0,1=>some a
 |1,0=>some b
 |1,1=>some false
 |_,_=>none
noncomputable def GJ(a b c d e f:Bool):Nat->Nat->Option Bool
 |0,0=>some false
 |0,1=>some a
 |0,2=>some b
 |1,0=>some c
 |1,1=>some false
 |1,2=>some d
 |2,0=>some e
 |2,1=>some f
 |2,2=>some false
 |_,_=>none
noncomputable def t_(n:Nat)(o:Option (Array Nat)):Bool:=match o with
 |some p=>decide (p.size=n) && p.all λi=>decide (i < n)
 |none=>false
theorem G4:∀a b,t_ 2 (Cd (GK a b) (PySem.W.kas_sort 2))=true:=by decide +kernel
theorem G3:∀a b c d e f,t_ 3 (Cd (GJ a b c d e f) (PySem.W.kas_sort 3))=true:=by decide +kernel
variable{x:P}
theorem hJ(n:mq x)(k:mq y):∃b,KZ x y=some b:=by
 obtain⟨m,i,_,_,rfl⟩:=n;obtain⟨s,e,_,_,rfl⟩:=k;show ∃b,vr [.str m,.int i] [.str s,.int e]=some b;unfold vr;by_cases h:m=s
 .rw [if_pos h];unfold vr;by_cases a:(i == e)=true
  .rw [if_pos a];exact⟨_,rfl⟩
  .rw [if_neg a];exact⟨_,rfl⟩
 .rw [if_neg h];exact⟨_,rfl⟩
theorem kZ(h:mq x):KZ x x=some false:=by obtain⟨m,i,_,_,rfl⟩:=h;show vr [.str m,.int i] [.str m,.int i]=some false;unfold vr;rw[if_pos rfl];unfold vr;rw[if_pos (by simp)];rfl
variable{n:Nat}
theorem x4(h:t_ n o=true):∃p,o=some p/\p.size=n/\∀i ∈ p.toList,i < n:=by
 cases o with
 |none=>cases h
 |some p=>
  unfold t_ at h;rw[Bool.and_eq_true]at h;refine⟨p,rfl,aS h.1,λi x=>?_⟩;have:=Array.all_eq_true'.mp h.2 i (by simpa using x)
  exact aS this
theorem pQ(h:j_ r):∃t,j_ t/\jS r=some (.lst t):=by
 have E:sortable r=true:=by
  unfold sortable;have:r.all n_=true:=bc.mpr λx k=>by obtain⟨m,i,_,_,rfl⟩:=h.2 x k;rfl
  rw[this,Bool.or_true]
 have o:∃t,j_ t/\ma r=some t:=by
  unfold ma;by_cases q:r.length < 2
  .exact⟨r,h,by rw[if_pos q]⟩
  .rw [if_neg q,if_pos (by have:=h.1;lia)];have s:∀n,r.length=n->n≤3->t_ n (Cd (jG r) (PySem.W.kas_sort n))=true->∃t,j_ t/\((Cd (jG r) (PySem.W.kas_sort r.length)).bind λp=>if p.size < 64 then some (p.toList.map λi=>r.getD i .non) else none)=some t:=λn C D P=>by
    obtain⟨p,e,G,q⟩:=x4 P;refine⟨p.toList.map λi=>r.getD i .non,⟨by simp;lia,λl B=>?_⟩,by rw[C,e];simp[show p.size < 64 by lia]⟩;obtain⟨i,A,rfl⟩:=cN.mp B;have:=q i A
    rw[iQ,dY (by lia)];exact h.2 _ (gc _)
   match r,h,q,s with
   | [x,y],h,_,s=>
    refine s 2 rfl (by lia) ?_;have k:=h.2 x (by simp);have v:=h.2 y (by simp);obtain⟨a,u⟩:=hJ k v;obtain⟨b,g⟩:=hJ v k;have:jG [x,y]=GK a b:=by
     funext i j;match i,j with
     |0,0=>exact kZ k
     |0,1=>exact u
     |1,0=>exact g
     |1,1=>exact kZ v
     |0,j+2=>rfl
     |1,j+2=>rfl
     |i+2,0=>rfl
     |i+2,1=>rfl
     |i+2,j+2=>rfl
    rw[this];exact G4 a b
   | [x,y,z],h,_,s=>
    refine s 3 rfl (by lia) ?_;have k:=h.2 x (by simp);have v:=h.2 y (by simp);have w:=h.2 z (by simp);obtain⟨a,u⟩:=hJ k v;obtain⟨b,g⟩:=hJ k w;obtain⟨c,H⟩:=hJ v k;obtain⟨d,S⟩:=hJ v w;obtain⟨e,F⟩:=hJ w k;obtain⟨f,K⟩:=hJ w v;have:jG [x,y,z]=GJ a b c d e f:=by
     funext i j;match i,j with
     |0,0=>exact kZ k
     |0,1=>exact u
     |0,2=>exact g
     |1,0=>exact H
     |1,1=>exact kZ v
     |1,2=>exact S
     |2,0=>exact F
     |2,1=>exact K
     |2,2=>exact kZ w
     |0,j+3=>rfl
     |1,j+3=>rfl
     |2,j+3=>rfl
     |i+3,0=>rfl
     |i+3,1=>rfl
     |i+3,2=>rfl
     |i+3,j+3=>rfl
    rw[this];exact G3 a b c d e f
   | [],_,q,_=>simp at q
   | [_],_,q,_=>simp at q
   |_::_::_::_::_,h,_,_=>have:=h.1;simp at this
 obtain⟨t,w,e⟩:=o;exact⟨t,w,by unfold jS;rw[if_pos E,e];rfl⟩
theorem lY:i ∈ ce N a↔N[i]? = some a:=by
 unfold ce;rw[iN];constructor
 .exact λh=>aS h.2
 .exact λh=>⟨mY.mpr (aW h),ju h⟩
variable{B:BD}
theorem sT(h:x ∈ B.PR):∃r ∈ B.roads,∃a b:Nat,x=pr r a b:=by unfold BD.PR cv at h;obtain⟨r,e,h⟩:=nv.mp h;unfold wB at h;obtain⟨a,_,h⟩:=nv.mp h;obtain⟨b,_,rfl⟩:=cN.mp h;exact⟨r,e,a,b,rfl⟩
theorem IW(s:r ∈ B.roads)(x:B.N[a]? = some (rA r))(e:B.N[b]? = some (rB r))(h:a≠b):pr r a b ∈ B.PR:=by unfold BD.PR cv;refine nv.mpr ⟨r,s,?_⟩;unfold wB;refine nv.mpr ⟨a,lY.mpr x,cN.mpr ⟨b,?_,rfl⟩⟩;rw[iN];exact⟨lY.mpr e,by simpa using h⟩
structure Places(B:BD):Prop where
 get:∀(r:P)(a b:Nat),pr r a b ∈ B.PR->∃d,bQ [.inl (a:Int),.inl (b:Int)] B.ks B.vs=some d
 ok:∀(x y:Int)(d:D),bQ [.inl x,.inl y] B.ks B.vs=some d->∃(k:Nat)(r:P)(a b:Nat),r ∈ B.roads/\d=.p (.int (k:Int))/\B.PR[k]? = some (pr r a b)
def bB(B:BD)(rds:List P):Prop:=rds.length=B.PR.length/\∀r ∈ rds,∃ls,j_ ls/\r=.tup ls
theorem bB.at{B:BD}{u:List P}(h:bB B u){k:Nat}{x:P}(n:B.PR[k]? = some x):k < u.length/\∃l,j_ l/\u[k]? = some (.tup l):=by
 have a:k < u.length:=by rw[h.1];exact aW n
 obtain⟨l,e,s⟩:=h.2 u[k] (gc _);exact⟨a,l,e,by rw[dY a,s]⟩
variable{u:List P}
theorem bB.set(h:bB B u)(k:Nat)(a:j_ l):bB B (u.set k (.tup l)):=by
 refine⟨by rw[dZ];exact h.1,λr x=>?_⟩;rcases uY x with x|rfl
 .exact h.2 r x
 .exact⟨l,a,rfl⟩
theorem oV(h:Pln B.fams B.roads B.wishes):B.PR.length≤2048:=by
 have N:B.N.length≤16:=aU (ot h) (by decide);have k:∀s:List P,(cv B.N s).length≤256 * s.length:=by
  intro s;induction s with
  |nil=>simp[cv]
  |cons r s i=>have:=pT B.N r N;rw[show cv B.N (r::s)=wB B.N r++cv B.N s by simp[cv],b_,bt];lia
 have:=k B.roads;have:=h.rl
 unfold BD.PR;lia
theorem Jq(h:Str->GF):mT Tb h "Board" "family_of"=some (h "Board.family_of"):=by kernel_rfl
theorem LF(h:Str->GF):mT Tb h "Board" "hands_beside"=some (h "Board.hands_beside"):=by kernel_rfl
theorem Jt:fields.contains "family_of"=false:=by decide +kernel
theorem LR:fields.contains "hands_beside"=false:=by decide +kernel
theorem qa{a:List P}{h:Nat}{f:P}(s:(aA a)[h]? = some f):∃p:Nat,(homes a)[h]? = some (.int (p:Int))/\a[p]? = some f:=by
 unfold aA at s;unfold homes;rw[List.getElem?_map]at s ⊢;cases e:(hw 0 a)[h]? with
 |none=>rw[e]at s;cases s
 |some x=>rw[e]at s;cases s;obtain⟨j,n,k⟩:=oo (bL e);exact⟨x.1,rfl,by rw[n,fq];exact k⟩
theorem vJ{n:Nat}(r:2≤n){B:BD}{b i:Nat}{S:aD}(h:Bd B b i S){k:Nat}{f:P}(m:(aA B.fams)[k]? = some f):Ph n "Board.family_of" [.ref i,.p (.int (k:Int))] S=some (.p f,S):=by obtain⟨n,rfl⟩:=gp (n:=n) (by first|assumption|lia);obtain⟨j,q,l,t,mk,v,h⟩:=h;obtain⟨p,e,a⟩:=qa m;have s:mK (d6 (aT Att) (aa 0) "homes") (vv 1) [qr i,qi (k:Int)] S=some (.p (.int (p:Int)),S):=h.ho.ix (h.homes rfl) rfl (bF e);have c:d6 (aT Att) (aa 0) "families" [qr i,qi (k:Int)] S=some (.p (.lst B.fams),S):=h.families rfl;rw[cd];show(match aI _ [qr i,qi (k:Int)] S with|some (.rt d,_,x)=>some (d,x)|some (.nx,_,x)=>some (.p .non,x)|_=>none)=_;rw[ri,jR,c,av,ka,s];simp[bF a]
theorem AO(F:2≤n)(P:Pln B.fams B.roads B.wishes)(h:Bd B b i S)(k:Nat)(g:a ∈ B.N):∃e,Ph n "Board.hands_beside" [.ref i,.p (.int (k:Int)),.p (.str a)] S=some (.p (.lst (cG (oth B.N a k))),e)/\Fr b S e:=by
 obtain⟨n,rfl⟩:=gp (n:=n) (by first|assumption|lia);obtain⟨A,G,C,E,mk,I,h⟩:=h;obtain⟨j,u,m,s⟩:=h.mm a g;refine⟨_,?_,Fr.frz u s⟩;have r:mK (d6 (aT Att) (aa 0) "members") (vv 2) [qr i,qi (k:Int),qs a] S=some (.ref j,S):=by rw[jR,h.members rfl];simp[h.me,cj,m]
 have l:(cG (ce B.N a)).length≤1000000:=by have:=ee B.N a;have:B.N.length≤4:=ot P;simp[cG];lia
 have t:bA (ak 3) (bV (aC pa (aa 3) (aa 1))) (vv 3) (cG (ce B.N a)) [qr i,qi (k:Int),qs a,none] (S.set j (.fz (.lst (cG (ce B.N a)))))=some (cG (oth B.N a k),S.set j (.fz (.lst (cG (ce B.N a))))):=by
  rw[di (p:=λv=>match v with | .int x=>!decide (k=x.toNat)|_=>false) (f:=id) (Inv:=λL=>∃d,L=[qr i,qi (k:Int),qs a,d]) (λv c L w=>?_) ⟨none,rfl⟩]
  .congr 2;unfold cG oth;rw[List.filter_map,List.map_id];rfl
  .obtain⟨d,rfl⟩:=w;unfold cG at c;obtain⟨o,K,rfl⟩:=cN.mp c;refine⟨[qr i,qi (k:Int),qs a,qi (o:Int)],rfl,⟨_,rfl⟩,?_,λ_=>by simp⟩;by_cases q:k=o
   .simp [q]
   .have y:¬(o:Int)=(k:Int):=by lia
    have H:¬o=k:=λz=>q z.symm;simp[q,y,H]
 rw[ci];show(match aI _ [qr i,qi (k:Int),qs a] S with|some (.rt d,_,e)=>some (d,e)|some (.nx,_,e)=>some (.p .non,e)|_=>none)=_;simp only[bv,ri,oE,bo,i0,ka,r,av,s.frz];rw[if_pos (by rw[oB];exact l)];rw[show lG [] 1 [some (D.ref i),qi (k:Int),qs a]=[qr i,qi (k:Int),qs a,none] from rfl,t];rfl
structure GC(B:BD) where
 b:Nat
 i:Nat
 S0:aD
 r:Nat
 bd:Bd B b i S0
 hr:S0.length≤r
theorem GC.le(G:GC B):G.b≤G.S0.length:=G.bd.le
theorem oA{i:Type}{g:jf}{b:ES}{p:i->Lc->Prop}{Sp:i->aD->Prop}{r:i->Nat}{c M:Nat}{f:P->List P}:∀{s:List P},
  (∀x ∈ s,(f x).length≤c/\∀G L S w,p G L->Sp G S->S[r G]? = some (.lst (w.map .p))->w.length+c≤M->∃k L2 e,g x L=some k/\b k S=some (.nx,L2,e)/\p G L2/\Sp G e/\e[r G]? = some (.lst ((w++f x).map .p))) ->
  (s.flatMap f).length≤c * s.length/\∀G L S w,p G L->Sp G S->S[r G]? = some (.lst (w.map .p))->w.length+c * s.length≤M->∃n a,aR g b s L S=some (.nx,n,a)/\p G n/\Sp G a/\a[r G]? = some (.lst ((w++s.flatMap f).map .p))
 | [],_=>⟨by simp,λG L S w m v h _=>⟨L,S,rfl,m,v,by rw[List.flatMap_nil,List.append_nil];exact h⟩⟩
 |x::s,j=>by
  obtain⟨D,H⟩:=j x List.mem_cons_self;obtain⟨I,C⟩:=oA (s:=s) λy B=>j y (a6 _ B);have A:c * (x::s).length=c+c * s.length:=by rw[bt,Nat.mul_succ,Nat.add_comm]
  refine⟨by rw[A,jx,b_];lia,λG L S w m v h E=>?_⟩;obtain⟨k,L2,e,l,z,q,u,F⟩:=H G L S w m v h (by lia);obtain⟨n,a,o,t,d,K⟩:=C G L2 e (w++f x) q u F (by rw[b_];lia);exact⟨n,a,by rw[bR l z];exact o,t,d,by rw[jx,<- List.append_assoc];exact K⟩
theorem d9{q:Type}{g:jf}{b:ES}{p:q->Lc->Prop}{Sp:q->aD->Prop}{r:q->Nat}{Q:P->Prop}{c M:Nat}{e:List P}
  (h:∀x ∈ e,∃s:List P,s.length≤c/\(∀y ∈ s,Q y)/\∀G L S w,p G L->Sp G S->S[r G]? = some (.lst (w.map .p))->w.length+c≤M->∃d L2 m,g x L=some d/\b d S=some (.nx,L2,m)/\p G L2/\Sp G m/\m[r G]? = some (.lst ((w++s).map .p))) :
  ∃s:List P,s.length≤c * e.length/\(∀y ∈ s,Q y)/\∀G L S w,p G L->Sp G S->S[r G]? = some (.lst (w.map .p))->w.length+c * e.length≤M->∃v k,aR g b e L S=some (.nx,v,k)/\p G v/\Sp G k/\k[r G]? = some (.lst ((w++s).map .p)):=by
 let f:P->List P:=λx=>@dite _ (x ∈ e) (Classical.propDecidable _) (λa=>Classical.choose (h x a)) λ_=>[]
 have u:∀x a,f x=Classical.choose (h x a):=λx a=>dif_pos a;have t:=λx a=>Classical.choose_spec (h x a);obtain⟨i,j⟩:=oA (f:=f) λx a=>by rw[u x a];exact⟨(t x a).1,(t x a).2.2⟩
 exact⟨_,i,λy n=>by obtain⟨x,a,n⟩:=nv.mp n;rw[u x a]at n;exact(t x a).2.1 y n,j⟩
theorem il(h:S[r]? = some o):(S.set r a)[r]? = some a:=by rw[dX (aW h)]
variable{k:Nat}{w:List P}
theorem k7(n:r L S=some (.ref k,S))(h:S[k]? = some (.lst (w.map .p)))(s:a L S=some (.lst y,e))(x:e[k]? = some (.lst (w.map .p)))(l:w.length+y.length≤1000000):bN (d_ r a) L S=some (.nx,L,e.set k (.lst ((w++y).map .p))):=by rw[kT,vL,n,av];simp only[dD,h,s,av,x,a7];rw[if_pos (by rw[la];exact l),List.map_append];rfl
theorem i'(n:r L S=some (.ref k,S))(h:S[k]? = some (.lst (w.map .p)))(s:a L S=some (.p y,e))(x:e[k]? = some (.lst (w.map .p)))(l:w.length≤1000000):bN (bj r a) L S=some (.nx,L,e.set k (.lst ((w++[y]).map .p))):=by rw[kT,kH,n,av];simp only[dD,h,s,av,x];rw[if_pos (by rw[oB,a7];exact l),List.map_append];rfl
theorem De(m:Pln B.fams B.roads B.wishes)(n:a ∈ B.fams):a9 a ∈ B.N:=by
 have p:1≤gu a:=by
  obtain⟨q,c,o,e,w,t,h,rfl⟩:=m.hf a n;have:=h.hcr.1
  simp[gu];lia
 have y:∀(f:List P)(k:Nat),a ∈ f->∃x ∈ hw k f,x.2=a:=by
  intro f;induction f with
  |nil=>intro k h;cases h
  |cons g r i=>
   intro k h;rcases ba.mp h with rfl|h
   .exact⟨(k,a),by unfold hw;exact ky _ (List.mem_replicate.mpr ⟨by lia,rfl⟩),rfl⟩
   .obtain⟨x,s,b⟩:=i (k+1) h;exact⟨x,by unfold hw;exact gi _ s,b⟩
 obtain⟨x,s,rfl⟩:=y B.fams 0 n;unfold BD.N az aA;exact cN.mpr ⟨x.2,cN.mpr ⟨x,s,rfl⟩,rfl⟩
theorem Lp(f:(aA B.fams)[k]? = some h):B.N[k]? = some (a9 h):=by unfold BD.N az;rw[List.getElem?_map,f];rfl
def uK(B:BD)(u:List P)(hd:Nat)(y:P):Prop:=∃(s p k:Nat)(l:List P),y=.tup [.int (s:Int),.int (p:Int)]/\bQ [.inl (s:Int),.inl (hd:Int)] B.ks B.vs=qi (k:Int)/\k < u.length/\u[k]? = some (.tup l)/\j_ l/\p < l.length
theorem DI{B:BD}(hP:Pln B.fams B.roads B.wishes)(G:Places B){n:Nat}(hn:2≤n){u:List P}(hr:bB B u){hd s:Nat}{d:D}(j:bQ [.inl (s:Int),.inl (hd:Int)] B.ks B.vs=some d){t:Str}{g:List P} :
  ∃ys:List P,ys.length≤3/\(∀y ∈ ys,uK B u hd y)/\∀(b i:Nat)(S:aD)(r:Nat)(w:List P)(q6 W A K:Option D),Bd B b i S->S[r]? = some (.lst (w.map .p))->w.length+3≤1000000 ->
   ∃V X Y Z,dJ (Ph n) (Ph (n-1)) [qr i,qt u,qi (hd:Int),qt (.str t::g),qr r,qi (s:Int),q6,W,A,K] S=some (.nx,[qr i,qt u,qi (hd:Int),qt (.str t::g),qr r,qi (s:Int),V,X,Y,Z],S.set r (.lst ((w++ys).map .p))):=by
 obtain⟨k,road,a,b',J,rfl,hk⟩:=G.ok _ _ _ j;obtain⟨I,l,q,H⟩:=hr.at hk;obtain⟨ra,rb,f,c,d1,d2,ha,hb,hkd,hc1,hc2,rfl⟩:=hP.hr road J;have h3:=q.1;have e:∃e:List P,e.length≤l.length/\(∀y ∈ e,B7 l.length y)/\∀(L:Lc)(S:aD),L[7]? = some (qs f)->L[8]? = some (qt l)->CC (bV (aC eC (aa 7) (eV (vt "row")))) (jB (Fw (eH (aa 8))) fZ (fI (vi 1))) (ah (pureOf (Ph n "unlike_spots")) (v2 (vv 7) (vv 8))) L S=some (.lst e,S):=by
  obtain⟨us,O,Q,eu⟩:=CD hn f q;have hq:l.length < 1000000:=by lia
  by_cases o:f="row"
  .refine⟨cut (intsFrom 0 l.length) none (some 1),by have:=(k_ (h:=intsFrom 0 l.length) (lo:=none) (i:=some 1)).2;rwa [br]at this,λy U=>?_,λL S C E=>?_⟩
   .obtain⟨i,rfl,hi⟩:=f6 (k_.1 y U);exact⟨i,hi,by simp⟩
   .simp [C,E,o,cB,dq,hq]
  .exact⟨us,O,Q,λL S C E=>by simp[C,E,o,eu]⟩
 obtain⟨e,M,F,es⟩:=e;let p:P->Bool:=λv=>match v with | .int x=>decide (a9 (l.getD x.toNat .non)=t)|_=>false
 refine⟨(e.filter p).map λv=>.tup [.int (s:Int),v],by rw[a7];exact aU (kz ..) (aU M h3),λy U=>?_,λb i S r w q6 W A K hB hS hM=>?_⟩
 .obtain⟨v,R,rfl⟩:=cN.mp U;obtain⟨x,T,rfl⟩:=F v (iN.mp R).1;exact⟨s,x,k,l,rfl,j,I,H,q,T⟩
 .obtain⟨jh,jp,jl,jm,mk,mv,h⟩:=hB;have e2:bA (ak 10) (bV (aC eC (eV (ac ar (ac ar (vv 8) (vv 10)) (vi 0))) (eV (ac ar (vv 3) (vi 0))))) (aw (v2 (vv 5) (vv 10))) e [qr i,qt u,qi (hd:Int),qt (.str t::g),qr r,qi (s:Int),qi (k:Int),qs f,qt l,ql e,none] S=some ((e.filter p).map λv=>.tup [.int (s:Int),v],S):=
   di (Inv:=λL=>∃d,L=[qr i,qt u,qi (hd:Int),qt (.str t::g),qr r,qi (s:Int),qi (k:Int),qs f,qt l,ql e,d]) (λv R L G=>by obtain⟨d,rfl⟩:=G;obtain⟨x,T,rfl⟩:=F v R;have j:l[x]? = some l[x]:=dY T;obtain⟨m,z,_,_,hz⟩:=q.2 l[x] (gc _);rw[hz]at j;refine⟨[qr i,qt u,qi (hd:Int),qt (.str t::g),qr r,qi (s:Int),qi (k:Int),qs f,qt l,ql e,qi (x:Int)],rfl,⟨_,rfl⟩,?_,λ_=>by simp⟩;simp[bF j,p,j,a9]) ⟨none,rfl⟩
  refine⟨qi (k:Int),qs f,qt l,ql e,?_⟩;have N:e.length≤1000000:=by lia
  unfold dJ;refine(al (e:=[qr i,qt u,qi (hd:Int),qt (.str t::g),qr r,qi (s:Int),qi (k:Int),W,A,K]) (b:=S) ?_).trans ?_
  .rw [dQ,wY,h.places rfl];simp[iX,h.pl,cw,cj,j]
  refine(al (e:=[qr i,qt u,qi (hd:Int),qt (.str t::g),qr r,qi (s:Int),qi (k:Int),qs f,A,K]) (b:=S) ?_).trans ?_
  .rw [dQ,jR,jR,h.pr.ix (h.pairs rfl) (i:=(k:Int)) rfl (bF hk)];simp[pr]
  refine(al (e:=[qr i,qt u,qi (hd:Int),qt (.str t::g),qr r,qi (s:Int),qi (k:Int),qs f,qt l,K]) (b:=S) ?_).trans ?_
  .simp [bF H]
  refine(al (e:=[qr i,qt u,qi (hd:Int),qt (.str t::g),qr r,qi (s:Int),qi (k:Int),qs f,qt l,ql e]) (b:=S) ?_).trans ?_
  .rw [dQ,oE,es _ S rfl rfl];rfl
  refine k7 rfl hS ?_ hS (by rw[a7];have:=kz p e;lia);simp only[bo,i0,ka];simp[N,lG,e2]
theorem Bk{B:BD}(H:Pln B.fams B.roads B.wishes)(hL:Places B){n:Nat}(hn:4≤n){hd:Nat}{f:P}(hf:(aA B.fams)[hd]? = some f){u K:List P}(hr:bB B u){I:P}(ht:jK (a9 f) B.roads K I) :
  ∃p:List P,p.length≤12/\(∀y ∈ p,(I=.non/\y=.non)\/(I≠.non/\uK B u hd y))/\∀(b i:Nat)(S:aD),Bd B b i S->∃d j,Ph n "takeable" [.ref i,.p (.tup u),.p (.int (hd:Int)),.p I] S=some (d,j)/\Fr b S j/\l_ S j d p:=by
 obtain⟨n,rfl⟩:=gp (n:=n) (by first|assumption|lia);rcases ht with rfl|⟨m,a,t,k,_,_,_,_,⟨r,F,V,rfl⟩,_,rfl⟩
 .refine⟨[.non],by simp,λy X=>.inl ⟨rfl,by simpa using X⟩,λb i S z=>⟨.p (.lst [.non]),S,?_,Fr.refl _ _,.inl rfl⟩⟩;rw[fD];simp[cM,dF,ni,de]
 .have v:rA r ∈ B.N:=by
   obtain⟨⟨f',h1,O⟩,_⟩:=H.ra r F;rw[<- O];exact De H h1
  obtain⟨p,h1,O,h3⟩:=d9 (q:=GC B) (g:=ak 5) (b:=dJ (Ph (n+1)) (Ph n)) (Sp:=λG S=>Fr G.b G.S0 S) (r:=λG=>G.r) (Q:=uK B u hd) (c:=3) (M:=1000) (e:=cG (oth B.N (rA r) hd))
   (p:=fun G L=>∃Y A C D E,L=[qr G.i,qt u,qi (hd:Int),qt [.str m,.str (rA r),.str t,.str k],qr G.r,Y,A,C,D,E]) (fun x hx=>by
    unfold cG at hx;obtain⟨s,v,rfl⟩:=cN.mp hx;unfold oth at v;rw[iN]at v;have W:s≠hd:=λq=>by have:=v.2;simp[q]at this
    obtain⟨d,hg⟩:=hL.get r s hd (IW F (lY.mp v.1) (by rw[Lp hf,V]) W);obtain⟨p,k1,k2,k3⟩:=DI H hL (n:=n+1) (by lia) hr hg (t:=m) (g:=[.str (rA r),.str t,.str k]);refine⟨p,k1,k2,λG L S w T hS h hM=>?_⟩;obtain⟨Y,A,C,D,E,rfl⟩:=T;obtain⟨q6',q7',q8',q9',e⟩:=k3 G.b G.i S G.r w A C D E (G.bd.fr hS) h (by lia);exact⟨_,_,_,rfl,e,⟨_,_,_,_,_,rfl⟩,hS.set G.le G.hr _,il h⟩)
  have hol:(cG (oth B.N (rA r) hd)).length≤4:=by
   have h4:B.N.length≤4:=ot H;have:=ee B.N (rA r)
   have:=kz (λo=>!decide (hd=o)) (ce B.N (rA r));simp[cG,oth];lia
  refine⟨p,by lia,λy X=>.inr ⟨λq=>(by cases q),O y X⟩,λb i S z=>?_⟩;have Il:=Fr.app b S [.lst []];obtain⟨Z,e1,l⟩:=AO (n:=n+1) (by lia) H (z.fr Il) hd v;have J:=Il.trans l;have hb:=z.le;obtain⟨L',j,e2,⟨Y,A,C,D,E,rfl⟩,N,hl⟩:=h3 ⟨b,i,S,S.length,z,Nat.le_refl _⟩ [qr i,qt u,qi (hd:Int),qt [.str m,.str (rA r),.str t,.str k],qr S.length,none,none,none,none,none] Z [] ⟨_,_,_,_,_,rfl⟩ J (l.hi _ _ hb (gK _ _)) (by simp;lia);refine⟨.ref S.length,j,?_,N,.inr ⟨S.length,Nat.le_refl _,rfl,.inl hl⟩⟩;rw[fD];have R:=z.fr Il;obtain⟨jh,jp,jl,jm,mk,mv,U⟩:=R;have em:dS (mT Tb (Ph (n+1))) (aa 0) "hands_beside" (ae (aa 2) (ae (eV (ac ar (vv 3) (vi 1))) aV)) [qr i,qt u,qi (hd:Int),qt [.str m,.str (rA r),.str t,.str k],qr S.length,none,none,none,none,none] (S++[.lst []])=some (.p (.lst (cG (oth B.N (rA r) hd))),Z):=
   (U.meth rfl (LF _) LR (l:=[.p (.int (hd:Int)),.p (.str (rA r))]) (by simp)).trans e1
  simp[cM,dF,ni,de,-iA,em,e2]
def o9(v:P):Prop:=∃j:Int,v=.int j
theorem o9.ok(h:o9 v)(n:Nat):bC n v=true:=by obtain⟨j,rfl⟩:=h;simp
variable{m:Str}
theorem D1(hP:Pln B.fams B.roads B.wishes)(hL:Places B)(hn:2≤n)(T:bB B u)(hd t v:Int)(hm:PyData.strOk m=true) :
  ∃I:Option (List P),(∀j,I=some j->bB B j)/\∀(b i:Nat)(S:aD)(s:P)(p e x:Option D),Bd B b i S->∃C E G,
   eL (Ph n) (Ph (n-1)) [qr i,qt u,qi hd,qp s,qt [.str m,.int v],qi t,p,e,x] S=match I with
    |none=>some (.rt (.p .non),[qr i,qt u,qi hd,qp s,qt [.str m,.int v],qi t,C,E,G],S)
    |some j=>some (.nx,[qr i,qt j,qi hd,qp s,qt [.str m,.int v],qi t,C,E,G],S):=by
 cases N:bQ [.inl hd,.inl t] B.ks B.vs with
 |none=>
  refine⟨none,λ_ q=>(by cases q),λb i S s p e x r=>⟨qp .non,e,x,?_⟩⟩;obtain⟨V,Y,W,X,mk,Z,h⟩:=r;unfold eL;refine(al (e:=[qr i,qt u,qi hd,qp s,qt [.str m,.int v],qi t,qp .non,e,x]) (b:=S) ?_).trans (rh ?_)
  .rw [dQ,ue,h.places rfl];simp[iX,h.pl,cw,cj,N]
  .simp [ni,de]
 |some d=>
  obtain⟨k,road,a,b',U,rfl,O⟩:=hL.ok _ _ _ N;obtain⟨Q,A,R,l⟩:=T.at O;obtain⟨ra,rb,J,c,d1,d2,ha,hb,hkd,hc1,hc2,y⟩:=hP.hr road U;have L:L2.atI [P.str ra,.str rb,.str J,.int c,.bl d1,.bl d2] 3=some (.int c):=aY (by decide) rfl;have s1:∀(b i:Nat)(S:aD)(s:P)(p e x:Option D),Bd B b i S->am 6 (uf (d6 (aT Att) (aa 0) "places") (v2 (vv 2) (vv 5))) [qr i,qt u,qi hd,qp s,qt [.str m,.int v],qi t,p,e,x] S=some (.nx,[qr i,qt u,qi hd,qp s,qt [.str m,.int v],qi t,qi (k:Int),e,x],S):=λb i S s p e x r=>by obtain⟨V,Y,W,X,mk,Z,h⟩:=r;rw[dQ,ue,h.places rfl];simp[iX,h.pl,cw,cj,N]
  by_cases hv:v.natAbs≤999
  .have g:¬(999:Int) < (if v < 0 then -v else v):=by split<;>lia
   by_cases M:c≤(A.length:Int)
   .refine⟨none,λ_ q=>(by cases q),λb i S s p e x r=>⟨qi (k:Int),qp road,x,?_⟩⟩;refine(al (s1 b i S s p e x r)).trans ((al (e:=[qr i,qt u,qi hd,qp s,qt [.str m,.int v],qi t,qi (k:Int),e,x]) (b:=S) ?_).trans ((al (e:=[qr i,qt u,qi hd,qp s,qt [.str m,.int v],qi t,qi (k:Int),qp road,x]) (b:=S) ?_).trans (rh ?_)))
    .simp [ni,de,mD,g]
    .obtain⟨V,Y,W,X,mk,Z,h⟩:=r;rw[dQ,jR,h.pr.ix (h.pairs rfl) (i:=(k:Int)) rfl (bF O)];simp[pr]
    .simp [y,bF l,cB,dq,L,M]
   .have H:(A++[P.tup [.str m,.int v]]).length≤3:=by simp;lia
    have F:j_ (A++[P.tup [.str m,.int v]]):=⟨H,cz R.2 ⟨m,v,hm,hv,rfl⟩⟩;have ea:=gN (xs:=A) (m:=[P.tup [.str m,.int v]]) (by simp at H ⊢;lia);obtain⟨zs,hz,ez⟩:=pQ F;have hpl:=oV hP;have hrl:=T.1;have er:=λ(w:P)=>nP hn (xs:=u) (k:=k) Q (by lia) w;obtain⟨f,o,K⟩:∃f,j_ f/\((J="heap"/\f=zs)\/(¬J="heap"/\f=A++[P.tup [.str m,.int v]])):=by
     by_cases z:J="heap"
     .exact⟨zs,hz,.inl ⟨z,rfl⟩⟩
     .exact⟨_,F,.inr ⟨z,rfl⟩⟩
    refine⟨some (u.set k (.tup f)),λ_ q=>by cases q;exact T.set k o,λb i S s p e x r=>⟨qi (k:Int),qp road,qt f,?_⟩⟩;refine(al (s1 b i S s p e x r)).trans ((al (e:=[qr i,qt u,qi hd,qp s,qt [.str m,.int v],qi t,qi (k:Int),e,x]) (b:=S) ?_).trans ((al (e:=[qr i,qt u,qi hd,qp s,qt [.str m,.int v],qi t,qi (k:Int),qp road,x]) (b:=S) ?_).trans ?_))
    .simp [ni,de,mD,g]
    .obtain⟨V,Y,W,X,mk,Z,h⟩:=r;rw[dQ,jR,h.pr.ix (h.pairs rfl) (i:=(k:Int)) rfl (bF O)];simp[pr]
    rcases K with ⟨z,rfl⟩|⟨z,rfl⟩
    .simp [y,bF l,cB,dq,L,M,ea,z,xA,Bq,ez,bu,er]
    .simp [y,bF l,cB,dq,L,M,ea,z,er]
  .have g:(999:Int) < (if v < 0 then -v else v):=by split<;>lia
   refine⟨none,λ_ q=>(by cases q),λb i S s p e x r=>⟨qi (k:Int),e,x,?_⟩⟩;refine(al (s1 b i S s p e x r)).trans (rh ?_);simp[ni,de,mD,g]
theorem wC(F:Pln B.fams B.roads B.wishes)(H:Places B)(A:2≤n)(hd v:Int)(K:PyData.strOk m=true):∀{l:List P},(∀t ∈ l,o9 t)->∀{u:List P},bB B u ->
  ∃r:Option (List P),(∀s,r=some s->bB B s)/\∀(b i:Nat)(S:aD)(d:P)(w f c p:Option D),Bd B b i S->∃L z h a k,
   aR (ak 5) (eL (Ph n) (Ph (n-1))) l [qr i,qt u,qi hd,qp d,qt [.str m,.int v],w,f,c,p] S=match r with
    |none=>some (.rt (.p .non),L,S)
    |some s=>some (.nx,[qr i,qt s,qi hd,qp d,qt [.str m,.int v],z,h,a,k],S)
 | [],_,u,y=>⟨some u,λ_ q=>by cases q;exact y,λb i S d w f c p _=>⟨[],w,f,c,p,rfl⟩⟩
 |t::l,C,u,y=>by
  obtain⟨j,rfl⟩:=C t List.mem_cons_self;obtain⟨r,N,o⟩:=D1 F H A y hd j v K;cases r with
  |none=>refine⟨none,λ_ q=>(by cases q),λb i S d w f c p g=>?_⟩;obtain⟨h,a,k,e⟩:=o b i S d f c p g;exact⟨_,w,f,c,p,uc rfl e⟩
  |some s=>obtain⟨r,Q,R⟩:=wC F H A hd v K (l:=l) (λx O=>C x (a6 _ O)) (N s rfl);refine⟨r,Q,λb i S d w f c p g=>?_⟩;obtain⟨h,a,k,e⟩:=o b i S d f c p g;obtain⟨L,E,G,I,J,M⟩:=R b i S d (qi j) h a k g;exact⟨L,E,G,I,J,by rw[<- M];exact bR rfl e⟩
theorem BA(p:Pln B.fams B.roads B.wishes)(f:Places B)(g:3≤n)(hd v:Int)(q:PyData.strOk m=true)(w:∀t ∈ c,o9 t)(d:bB B u) :
  ∃a:P,(a=.non\/∃r,bB B r/\a=.tup r)/\∀(b i:Nat)(S:aD),Bd B b i S->Ph n "posted" [.ref i,.p (.tup u),.p (.int hd),.p (.lst c),.p (.tup [.str m,.int v])] S=some (.p a,S):=by
 obtain⟨n,rfl⟩:=gp (n:=n) (by first|assumption|lia);obtain⟨s,k,x⟩:=wC p f (n:=n+1) (by lia) hd v q w d;cases s with
 |none=>refine⟨.non,.inl rfl,λb i S h=>?_⟩;obtain⟨L,_,_,_,_,e⟩:=x b i S (.lst c) none none none none h;rw[gX];simp only[jy]at e;simp[cM,eX,e]
 |some r=>refine⟨.tup r,.inr ⟨r,k r rfl,rfl⟩,λb i S h=>?_⟩;obtain⟨L,_,_,_,_,e⟩:=x b i S (.lst c) none none none none h;rw[gX];simp only[jy]at e;simp[cM,eX,e]
def CT(y:P):Prop:=∃s h,y=.tup [.tup s,.lst h]/\s.length≤1/\(∀a ∈ s,o9 a)/\∀t ∈ h,o9 t
noncomputable abbrev eW(n:Str)(e:Nat)(r c w s:List P):P:=.tup [.str n,.int (e:Int),.lst r,.lst c,.lst w,.lst s]
theorem wu{s:List P}(h:∀x ∈ s,jo x){x:Str}(a:P.str x ∈ s):∃i:Nat,i < s.length/\kE s (.str x)=some i:=om (λy e=>(h y e).ok 19) a
theorem tg_ok{B:BD}(G:Pln B.fams B.roads B.wishes){n:Nat}(hn:4≤n){hd:Nat}{J:Str}{x:Nat}{m c s e:List P}(hF:Fam B.roads J x m c s e)(hf:(aA B.fams)[hd]? = some (eW J x m c s e)){g:List P}(hw:g.length=s.length)(R:∀w ∈ g,o9 w){u z:Str}
  (hc:(u="who"/\P.str z ∈ s)\/((u="all"\/u="any")/\∃r ∈ B.roads,rA r=J/\z=rB r)) :
  ∃T:List P,T.length≤4/\(∀y ∈ T,CT y)/\∀(b i:Nat)(S:aD),Bd B b i S->∃F,Ph n "targets_of" [.ref i,.p (.int (hd:Int)),.p (.str u),.p (.str z),.p (.tup g)] S=some (.p (.lst T),F)/\Fr b S F:=by
 obtain⟨n,rfl⟩:=gp (n:=n) (by first|assumption|lia);rcases hc with ⟨rfl,N⟩|⟨D,r,O,hra,rfl⟩
 .obtain⟨k,hk,Z⟩:=wu hF.hwh N;have U:g[k]? = some (g[k]'(by lia)):=dY (by lia);generalize W:g[k]'(by lia)=v at U;have Q:o9 v:=by rw[<- W];exact R _ (gc _)
  refine⟨[.tup [.tup [],.lst [v]]],by simp,λy E=>⟨[],[v],by simpa using E,by simp,λ_ h=>(by cases h),λt I=>by rw[iO.mp I];exact Q⟩,λb i S j=>⟨S,?_,Fr.refl _ _⟩⟩;have Y:=vJ (n:=n+1) (by lia) j hf;obtain⟨jh,jp,jl,jm,mk,mv,h⟩:=j;have A:dS (mT Tb (Ph (n+1))) (aa 0) "family_of" (ae (aa 1) aV) [qr i,qi (hd:Int),qs "who",qs z,qt g,none] S=some (.p (eW J x m c s e),S):=
   (h.meth rfl (Jq _) Jt (l:=[.p (.int (hd:Int))]) (by simp)).trans Y
  rw[dg];simp[cM,bU,-iA,A,Ll,Z,bF U]
 .have hs:rB r ∈ B.N:=by
   obtain⟨_,⟨f',h1,h2⟩⟩:=G.ra r O;rw[<- h2];exact De G h1
  have C:(cG (oth B.N (rB r) hd)).length≤4:=by
   have h4:B.N.length≤4:=ot G;have:=ee B.N (rB r)
   have:=kz (λo=>!decide (hd=o)) (ce B.N (rB r));simp[cG,oth];lia
  have l:∀t ∈ cG (oth B.N (rB r) hd),o9 t:=λt I=>by unfold cG at I;obtain⟨o,_,rfl⟩:=cN.mp I;exact⟨_,rfl⟩
  have A:∀(b i:Nat)(S:aD),Bd B b i S->∃F,dS (mT Tb (Ph (n+1))) (aa 0) "hands_beside" (ae (aa 1) (ae (aa 3) aV)) [qr i,qi (hd:Int),qs u,qs (rB r),qt g,none] S=some (.p (.lst (cG (oth B.N (rB r) hd))),F)/\Fr b S F:=λb i S j=>by obtain⟨H,K,q⟩:=AO (n:=n+1) (by lia) G j hd hs;obtain⟨jh,jp,jl,jm,mk,mv,h⟩:=j;exact⟨H,(h.meth rfl (LF _) LR (l:=[.p (.int (hd:Int)),.p (.str (rB r))]) (by simp)).trans K,q⟩
  generalize cG (oth B.N (rB r) hd)=os at C l A;rcases D with rfl|rfl
  .refine⟨[.tup [.tup [],.lst os]],by simp,λy E=>⟨[],os,by simpa using E,by simp,λ_ h=>(by cases h),l⟩,λb i S j=>?_⟩;obtain⟨H,K,q⟩:=A b i S j;refine⟨H,?_,q⟩;rw[dg];simp[cM,bU,-iA,K]
  .refine⟨os.map λo=>.tup [.tup [o],.lst [o]],by simpa using C,λy E=>?_,λb i S j=>?_⟩
   .obtain⟨o,V,rfl⟩:=cN.mp E;exact⟨[o],[o],rfl,by simp,λa M=>by rw[iO.mp M];exact l o V,λa M=>by rw[iO.mp M];exact l o V⟩
   .obtain⟨H,K,q⟩:=A b i S j;refine⟨H,?_,q⟩;have X:bA (ak 6) ir (aw (v2 (aw (v1 (vv 6))) (aP (v1 (vv 6))))) os [qr i,qi (hd:Int),qs "any",qs (rB r),qt g,ql os,none] H=some (os.map λo=>.tup [.tup [o],.lst [o]],H):=by
     rw[di (p:=λ_=>true) (f:=λo=>.tup [.tup [o],.lst [o]]) (Inv:=λL=>∃d,L=[qr i,qi (hd:Int),qs "any",qs (rB r),qt g,ql os,d]) (λv W L hL=>?_) ⟨none,rfl⟩,jQ];obtain⟨d,rfl⟩:=hL;exact⟨[qr i,qi (hd:Int),qs "any",qs (rB r),qt g,ql os,qp v],rfl,⟨_,rfl⟩,rfl,λ_=>by simp⟩
    have hq:os.length≤1000000:=by lia
    rw[dg];simp[cM,bU,-iA,K,bo,hq,lG,X]
def z5(y:P):Prop:=∃s p:Nat,y=.tup [.int (s:Int),.int (p:Int)]
theorem Gs{n:Nat}(B:3≤n){j:List P}{d:Str}{e:Nat}{r c o t:List P}(F:Fam j d e r c o t){x:List P}(hw:x.length=o.length)(i:∀w ∈ x,o9 w){p y:P}(H:jK d j o p)(K:(p=.non/\y=.non)\/(p≠.non/\z5 y)) :
  ∃f,f.length=o.length/\(∀w ∈ f,o9 w)/\pureOf (Ph n "whos_behind") [eW d e r c o t,.tup x,p,y]=some (.tup f):=by
 obtain⟨n,rfl⟩:=gp (n:=n) (by first|assumption|lia);rcases H with rfl|⟨m,a,g,u,_,_,_,_,_,b,rfl⟩
 .refine⟨x,hw,i,?_⟩;rw[cF,aj];simp[bx,ni,de]
 .obtain⟨s,C,rfl⟩:z5 y:=by
   rcases K with ⟨q,_⟩|⟨_,q⟩
   .cases q
   .exact q
  by_cases v:u=""
  .refine⟨x,hw,i,?_⟩;rw[cF,aj];simp[bx,ni,de,v]
  .obtain⟨k,A,l⟩:=wu F.hwh (b.resolve_left v);have S:=F.wl;have z:=nP (n:=n+1) (by lia) (xs:=x) (k:=k) (by lia) (by lia) (.int (s:Int));refine⟨x.set k (.int (s:Int)),by rw[dZ];exact hw,λw h=>?_,?_⟩
   .rcases uY h with h|rfl
    .exact i w h
    .exact⟨_,rfl⟩
   .rw [cF,aj];simp[bx,ni,de,v,Ll,l,z]
theorem sk(x:bz)(y:P):∀(n:List bz)(c:List P),n.Nodup->n.length=c.length->∃s a,oN x (.p y) n (c.map .p)=(s,a.map .p)/\s.Nodup/\s.length=a.length/\s.length≤n.length+1/\(∀k ∈ s,k=x\/k ∈ n)/\∀k,bG k s a=if x=k then some y else bG k n c
 | [],[],_,_=>⟨[x],[y],rfl,by simp,rfl,by simp,λk h=>.inl (by simpa using h),λk=>by by_cases q:x=k<;>simp[bG,q]⟩
 | [],_::_,_,h=>by simp at h
 |_::_,[],_,h=>by simp at h
 |f::n,v::c,m,l=>by
  obtain⟨t,m⟩:=List.nodup_cons.mp m;by_cases q:f=x
  .refine⟨f::n,y::c,by simp[oN,q],List.nodup_cons.mpr ⟨t,m⟩,by simpa using l,by simp,λk h=>.inr h,λk=>?_⟩;subst q;by_cases b:f=k
   .simp [bG,b]
   .simp [bG,b]
  .obtain⟨s,a,e,d,w,g,r,u⟩:=sk x y n c m (by simpa using l);refine⟨f::s,v::a,by simp[oN,q,e],List.nodup_cons.mpr ⟨λz=>?_,d⟩,by simp[w],by simp;lia,λk h=>?_,λk=>?_⟩
   .rcases r f z with z|z
    .exact q z
    .exact t z
   .rcases ba.mp h with rfl|h
    .exact .inr List.mem_cons_self
    .rcases r k h with h|h
     .exact .inl h
     .exact .inr (a6 _ h)
   .show (if f=k then some v else bG k s a)=_;by_cases b:f=k
    .subst b;have:¬x=f:=λz=>q z.symm
     simp[bG,this]
    .rw [if_neg b,u];by_cases p:x=k
     .simp [p]
     .simp [p,bG,b]
structure Giv(gk:List bz)(gv:List P):Prop where
 nd:gk.Nodup
 ln:gk.length=gv.length
 le:gk.length≤100
 iv:∀k v,bG k gk gv=some v->o9 v
variable{s:List bz}{f:List P}
theorem Giv.put(h:Giv s f)(l:s.length≤99)(y:bz)(i:Int):∃g x,oN y (.p (.int i)) s (f.map .p)=(g,x.map .p)/\Giv g x/\g.length≤s.length+1:=by
 obtain⟨n,b,e,c,m,r,p,t⟩:=sk y (.int i) s f h.nd h.ln;refine⟨n,b,e,⟨c,m,by lia,λk v a=>?_⟩,r⟩;rw[t]at a;split at a
 .cases a;exact⟨_,rfl⟩
 .exact h.iv k v a
theorem wy{o:EE}{k v:EV}{L:Lc}{S n:aD}{j:Nat}{s:List bz}{f:List P}{x:Str}{i:Int}(h:Giv s f)(l:s.length≤99)(q:v L S=some (.int i,n))(p:o L n=some (.ref j,n))(t:k L n=some (.str x,n))(r:n[j]? = some (.dct s (f.map .p))):∃g a,Giv g a/\g.length≤s.length+1/\dI o k v L S=some (.nx,L,n.set j (.dct g (a.map .p))):=by
 obtain⟨g,a,e,c,m⟩:=h.put l (.inr x) i;refine⟨g,a,c,m,?_⟩;have b:nO o k v L S=some (.nx,L,n.set j (.dct g (a.map .p))):=by unfold nO;rw[q,av,p,av,t,av];simp only[jE,r,cj];rw[if_pos ⟨h.nd,by rw[oB];lia⟩,e]
 unfold dI;rw[b]
theorem pY{k:bz}:∀{s:List bz}{x:List P},x2 k s=false->bG k s x=none
 | [],_,_=>by cases ‹List P›<;>rfl
 |_::_,[],_=>rfl
 |a::s,v::x,h=>by unfold x2 at h;rw[ig,Bool.or_eq_false_iff]at h;show(if a=k then some v else bG k s x)=none;rw[if_neg (of_decide_eq_false h.1)];exact pY h.2
noncomputable abbrev fy(x:Str)(m w t:P)(c s:List P)(r:P):P:=.tup [.str x,m,w,t,.lst c,.lst s,r]
theorem tt(a b c d e f g:P):L2.atI [a,b,c,d,e,f,g] 3=some d:=aY (by decide) rfl
theorem G2(a b c d e f g:P):L2.atI [a,b,c,d,e,f,g] 4=some e:=aY (by decide) rfl
theorem G1(a b c d e f g:P):L2.atI [a,b,c,d,e,f,g] 5=some f:=aY (by decide) rfl
theorem yW(a b c d e f g:P):L2.atI [a,b,c,d,e,f,g] 6=some g:=aY (by decide) rfl
theorem La(a b c d e f:P):L2.atI [a,b,c,d,e,f] 2=some c:=aY (by decide) rfl
theorem MN(a b c d e f:P):L2.atI [a,b,c,d,e,f] 5=some f:=aY (by decide) rfl
theorem Ff(G:Giv s f)(B:o=.dct s (f.map .p)\/o=.fz (.dct s f))(E:ol c)(m:r[k]? = some z)(F:∃i:Int,i.natAbs≤999/\z=.int i)(T:w.length≤1000)(t p q:Option D) :
  (∃L,aH M J [qp a,qt r,qp st,qp A,qr 0,t,p,qr 1,qi (k:Int),qp c,q] [o,.lst (w.map .p)]=some (.rt (.p .non),L,[.fz (.dct s f),.lst (w.map .p)])) \/
  ∃i:Int,i.natAbs≤999/\aH M J [qp a,qt r,qp st,qp A,qr 0,t,p,qr 1,qi (k:Int),qp c,q] [o,.lst (w.map .p)]=some (.nx,[qp a,qt r,qp st,qp A,qr 0,t,p,qr 1,qi (k:Int),qp c,qi i],[.fz (.dct s f),.lst ((w++[P.int i]).map .p)]):=by
 obtain⟨x,lo,j,u,_,N,O,Q,R,rfl⟩:=E;obtain⟨K,S,rfl⟩:=F;have d:toP 9 (.ref 0) [o,.lst (w.map .p)]=some (.dct s f,[.fz (.dct s f),.lst (w.map .p)]):=by
  rcases B with rfl|rfl
  .have:rO (toP 8) (f.map .p) [SO.dct s (f.map .p),.lst (w.map .p)]=some (f,[SO.dct s (f.map .p),.lst (w.map .p)]):=kY ..;simp[toP,this]
  .rfl
 have I:o9 ((bG (.inr x) s f).getD (.int K)):=by
  cases e:bG (.inr x) s f with
  |none=>exact⟨K,rfl⟩
  |some v=>exact G.iv _ v e
 obtain⟨n,h⟩:=I;have l:w.length≤1000000:=by lia
 cases b:x2 (.inr x) s with
 |false=>
  have y:n=K:=by rw[pY b]at h;exact(P.int.inj h).symm
  right;refine⟨n,by rw[y];exact S,?_⟩;rw[<- cH];simp[aH,d,cj,bF m,h,C0,FD,my,b,dD,l]
 |true=>
  by_cases H:lo≤n/\n≤j
  .right;refine⟨n,by lia,?_⟩;rw[<- cH];simp[aH,d,cj,bF m,h,C0,FD,my,b,dD,l,H.1,H.2]
  .left;refine⟨[qp a,qt r,qp st,qp A,qr 0,t,p,qr 1,qi (k:Int),qt [.str x,.int lo,.int j,.int u],qi n],?_⟩;by_cases g:lo≤n
   .have C:¬n≤j:=λz=>H ⟨g,z⟩;simp[aH,d,cj,bF m,h,C0,FD,my,b,g,C]
   .simp [aH,d,cj,bF m,h,C0,FD,my,b,g]
theorem xc(v:∀c ∈ r,∃i:Int,i.natAbs≤999/\c=.int i)(G:Giv s f)(u g:Option D):∀{l:List P}{k:Nat},(∀c ∈ l,ol c)->k+l.length=r.length->∀{n:SO},(n=.dct s (f.map .p)\/n=.fz (.dct s f))->∀{w:List P},w.length=k->r.length≤1000->∀(j H q:Option D),
  (∃L S,aR (aK [ak 8,ak 9]) (aH E C) (a_ (k:Int) l) [qp b,qt r,qp st,qp A,qr 0,u,g,qr 1,j,H,q] [n,.lst (w.map .p)]=some (.rt (.p .non),L,S)) \/
  ∃y m t a o,y.length=l.length/\(∀c ∈ y,∃i:Int,i.natAbs≤999/\c=.int i)/\aR (aK [ak 8,ak 9]) (aH E C) (a_ (k:Int) l) [qp b,qt r,qp st,qp A,qr 0,u,g,qr 1,j,H,q] [n,.lst (w.map .p)]=some (.nx,[qp b,qt r,qp st,qp A,qr 0,u,g,qr 1,m,t,a],[o,.lst ((w++y).map .p)])
 | [],k,_,_,n,_,w,_,_,j,H,q=>.inr ⟨[],j,H,q,n,rfl,λ_ h=>(by cases h),by simp[a_,aR]⟩
 |c::l,k,F,M,n,K,w,Q,N,j,H,q=>by
  simp only[bt]at M;have d:r[k]? = some (r[k]'(by lia)):=dY (by lia);unfold a_;rcases Ff (M:=E) (J:=C) (a:=b) (st:=st) (A:=A) (w:=w) G K (F c List.mem_cons_self) d (v _ (gc _)) (by lia) u g q with ⟨L,e⟩|⟨i,J,e⟩
  .exact .inl ⟨_,_,uc rfl e⟩
  .rcases xc (E:=E) (C:=C) (b:=b) (st:=st) (A:=A) v G u g (l:=l) (k:=k+1) (λx O=>F x (a6 _ O)) (by lia) (n:=.fz (.dct s f)) (.inr rfl) (w:=w++[.int i]) (by simp;lia) N (qi (k:Int)) (qp c) (qi i) with ⟨L,S,p⟩|⟨y,m,t,a,o,B,I,p⟩
   .rw [iB]at p;exact .inl ⟨L,S,(bR rfl e).trans p⟩
   .rw [iB]at p;refine .inr ⟨.int i::y,m,t,a,o,by simp[B],λz d=>?_,?_⟩
    .rcases ba.mp d with rfl|d
     .exact⟨i,J,rfl⟩
     .exact I z d
    .rw [show w++.int i::y=w++[.int i]++y by simp];exact(bR rfl e).trans p
theorem IK{T t:List P}{R:Str}{F:P}(Q:jK R T t F){K:List bz}{V:List P}(N:ll (more F) K V){s:List bz}{f:List P}(G:Giv s f)(O:s.length≤99)(h p z A r:P)(x:Str)(c H:List P)(d u j l y q:Option D) :
  ∃g b,Giv g b/\dW (g8 (bV (aC dE (eV (ac ar (vv 2) (vi 3))) (eV (vC (.non))))) (bV (aC pa (eV (ac ar (ac ar (vv 2) (vi 3)) (vi 2))) (eV (vt ""))))) (dI (aa 4) (ac ar (ac ar (vv 2) (vi 3)) (vi 2)) (ac ar (vv 3) (vt "it"))) ff [qp h,qp p,qp (fy x z A F c H r),qp (.dct K V),qr 0,d,u,j,l,y,q] [.dct s (f.map .p)]=some (.nx,[qp h,qp p,qp (fy x z A F c H r),qp (.dct K V),qr 0,d,u,j,l,y,q],[.dct g (b.map .p)]):=by
 rcases Q with rfl|⟨m,a,n,w,_,_,_,_,_,_,rfl⟩
 .exact⟨s,f,G,by simp[tt,dE,de]⟩
 .by_cases E:n=""
  .exact⟨s,f,G,by simp[tt,dE,de,E]⟩
  .obtain⟨i,_,I⟩:=N "it" (by simp[more]);obtain⟨B,C,J,U,e⟩:=wy (o:=aa 4) (k:=ac ar (ac ar (vv 2) (vi 3)) (vi 2)) (v:=ac ar (vv 3) (vt "it")) (L:=[qp h,qp p,qp (fy x z A (.tup [.str m,.str a,.str n,.str w]) c H r),qp (.dct K V),qr 0,d,u,j,l,y,q]) (S:=[.dct s (f.map .p)]) G O (i:=i) (n:=[.dct s (f.map .p)]) (x:=n) (by simp[I]) rfl (by simp[tt]) rfl;refine⟨B,C,J,?_⟩;rw[iW];have M:(g8 (bV (aC dE (eV (ac ar (vv 2) (vi 3))) (eV (vC (.non))))) (bV (aC pa (eV (ac ar (ac ar (vv 2) (vi 3)) (vi 2))) (eV (vt ""))))) [qp h,qp p,qp (fy x z A (.tup [.str m,.str a,.str n,.str w]) c H r),qp (.dct K V),qr 0,d,u,j,l,y,q] [.dct s (f.map .p)]=some (true,[.dct s (f.map .p)]):=by simp[tt,dE,de,E]
   rw[M];exact e
theorem IJ{n:Nat}(hn:6≤n){rs:List P}{z:Str}{q:Nat}{m c a p:List P}(U:Fam rs z q m c a p){N:List P}(hc:CellsOk c N){x:Str}{G J l:P}{d I:List P}{u:P}(Y:Stp z m c a rs G J l d I u){K:List bz}{V:List P}(he:ll (o5 c++more l) K V) :
  ∃j:P,(j=.non\/∃H,CellsOk c H/\j=.tup H)/\pureOf (Ph n "cells_behind") [eW z q m c a p,.tup N,fy x G J l d I u,.dct K V]=some j:=by
 obtain⟨n,rfl⟩:=gp (n:=n) (by first|assumption|lia);have hN:∀x ∈ o5 c++more l,jo x:=λx hx=>(dA.mp hx).elim (nY U.hce.1 x) (nc l x);have hcl:=Y.cl;have hc3:=U.cl;have hcn:=hc.1;let A:List (Option D):=[qp (eW z q m c a p),qt N,qp (fy x G J l d I u),qp (.dct K V),qr 0]
 let Inv:Nat->Lc->aD->Prop:=λi L S=>∃(s:List bz)(f:List P)(C E:Option D),Giv s f/\s.length≤i/\L=A++[C,E,none,none,none,none]/\S=[.dct s (f.map .p)]
 obtain⟨L',S',O,s,f,C,E,W,Z,rfl,rfl⟩:=bf (g:=aK [ak 5,ak 6]) (b:=eG (Ph (n+1)) (Ph n)) (Inv:=Inv) (s:=d) (k:=0) (L:=A++[none,none,none,none,none,none]) (S:=[.dct [] []]) (λi v L S hv hI=>by obtain⟨s,f,C,E,W,Z,rfl,rfl⟩:=hI;have hi:=aW hv;obtain⟨y,t,_,ht,rfl⟩:=Y.ch v (bL hv);obtain⟨r,er⟩:=nE hN he ht (n:=n+1) (by lia);obtain⟨Q,R,T,h2,e⟩:=wy (o:=aa 4) (k:=vv 5) (v:=ah (pureOf (Ph (n+1) "value_of")) (v2 (vv 6) (vv 3))) (L:=A++[qs y,qp t,none,none,none,none]) (S:=[.dct s (f.map .p)]) W (by lia) (i:=r) (n:=[.dct s (f.map .p)]) (by simp[A,er]) rfl rfl rfl;exact⟨_,_,_,rfl,e,Q,R,_,_,T,by lia,rfl,rfl⟩) ⟨[],[],none,none,⟨by simp,rfl,by simp,λk v h=>by cases h⟩,by simp,rfl,rfl⟩
 simp only[A,qM,ij]at O;obtain⟨gk2,gv2,X,e2⟩:=IK Y.htk (λx hx=>he x (gi _ hx)) W (by lia) (eW z q m c a p) (.tup N) G J u x d I C E none none none none;have B:=xc (E:=Ph (n+1)) (C:=Ph n) (b:=eW z q m c a p) (st:=fy x G J l d I u) (A:=.dct K V) hc.2 X C E (l:=c) (k:=0) U.hce.1 (by lia) (.inl rfl) (w:=[]) rfl (by lia) none none none;rw[show((0:Nat):Int)=0 from rfl]at B;rcases B with ⟨L',S',F⟩|⟨M,q8',q9',q10',o,T,h2,F⟩
 .refine⟨.non,.inl rfl,?_⟩;rw[dh,aj];simp only[iJ]at F;simp[-iW,bE,mu,G2,O,e2,FT,F]
 .refine⟨.tup M,.inr ⟨M,⟨T,h2⟩,rfl⟩,?_⟩;rw[dh,aj];simp only[iJ,ij]at F;have t1:toP 9 (.ref 1) [o,.lst (M.map .p)]=some (.lst M,[o,.fz (.lst M)]):=dP rfl;simp[-iW,bE,mu,G2,O,e2,FT,F,t1,bu]
end My
namespace My
open PySem L2 Ev
def mn(B:BD)(t:Nat)(y:P):Prop:=∃s r,y=.tup [.tup s,.tup r]/\s.length≤t/\(∀a ∈ s,o9 a)/\bB B r
structure GS(B:BD)(K:List bz)(V:List P) extends GC B where
 kv:Nat
 hkv:b≤kv
 hk:S0[kv]? = some (.fz (.dct K V))
abbrev FL(i k r:Nat)(hd t m l:P)(d f b c q h:Option D)(x a e s n:Option D):Lc:=[qr i,qp hd,qp t,qr k,qp m,qp l,d,f,b,c,q,h,qr r,x,a,e,s,n]
theorem Mr{B:BD}(I:Pln B.fams B.roads B.wishes)(Y:Places B){n:Nat}(j:3≤n){K:List bz}{V:List P}(hd v:Int){m:Str}(hm:PyData.strOk m=true){t:Nat}(ht:t≤10){s:List P}(has:s.length≤t)(T:∀a ∈ s,o9 a){r:List P}(hr:bB B r)(C A l:P)(o H F q:Option D){y:P}(hy:CT y) :
  ∃Z:List P,Z.length≤1/\(∀z ∈ Z,mn B (t+1) z)/\∀(G:GS B K V)(L:Lc)(S:aD)(c:List P),(∃d u i x,L=FL G.i G.kv G.r (.int hd) C A l d o H F q (qt [.str m,.int v]) (qt s) (qt r) u i x)->Fr G.b G.S0 S->S[G.r]? = some (.lst (c.map .p))->c.length+1≤1000 ->
   ∃L1 L2 p,aK [ak 15,ak 16] y L=some L1/\eP (Ph n) (Ph (n-1)) L1 S=some (.nx,L2,p)/\(∃d u i x,L2=FL G.i G.kv G.r (.int hd) C A l d o H F q (qt [.str m,.int v]) (qt s) (qt r) u i x)/\Fr G.b G.S0 p/\p[G.r]? = some (.lst ((c++Z).map .p)):=by
 obtain⟨k,E,rfl,hbl,U,X⟩:=hy;obtain⟨ans,Q,ep⟩:=BA I Y j hd v hm X hr;have N:=gN (xs:=s) (m:=k) (by lia);rcases Q with rfl|⟨f,W,rfl⟩
 .refine⟨[],by simp,λ_ h=>(by cases h),λG L S c J O R hM=>?_⟩;obtain⟨d,u,i,x,rfl⟩:=J;obtain⟨p,e,w⟩:=AK (b:=G.b) (g:=Ph n "posted") (u:=ae (aa 0) (ae (aa 14) (ae (aa 1) (ae (aa 16) (ae (aa 11) aV))))) (L:=FL G.i G.kv G.r (.int hd) C A l d o H F q (qt [.str m,.int v]) (qt s) (qt r) (qt k) (ql E) x) (S:=S) (l:=[.ref G.i,.p (.tup r),.p (.int hd),.p (.lst E),.p (.tup [.str m,.int v])]) rfl (ep G.b G.i S (G.bd.fr O)) (Fr.refl _ _);refine⟨FL G.i G.kv G.r (.int hd) C A l d o H F q (qt [.str m,.int v]) (qt s) (qt r) (qt k) (ql E) x,FL G.i G.kv G.r (.int hd) C A l d o H F q (qt [.str m,.int v]) (qt s) (qt r) (qt k) (ql E) (qp .non),p,rfl,?_,⟨_,_,_,_,rfl⟩,O.trans w,?_⟩
  .refine (al (e:=FL G.i G.kv G.r (.int hd) C A l d o H F q (qt [.str m,.int v]) (qt s) (qt r) (qt k) (ql E) (qp .non)) (b:=p) ?_).trans ?_
   .rw [dQ,oE,e];rfl
   .simp [dE,de]
  .rw [List.append_nil];exact w.hi _ _ (aU G.le G.hr) R
 .refine⟨[.tup [.tup (s++k),.tup f]],by simp,λz hz=>⟨s++k,f,by simpa using hz,by rw[b_];lia,λa ha=>(dA.mp ha).elim (T a) (U a),W⟩,λG L S c J O R hM=>?_⟩;obtain⟨d,u,i,x,rfl⟩:=J;obtain⟨p,e,w⟩:=AK (b:=G.b) (g:=Ph n "posted") (u:=ae (aa 0) (ae (aa 14) (ae (aa 1) (ae (aa 16) (ae (aa 11) aV))))) (L:=FL G.i G.kv G.r (.int hd) C A l d o H F q (qt [.str m,.int v]) (qt s) (qt r) (qt k) (ql E) x) (S:=S) (l:=[.ref G.i,.p (.tup r),.p (.int hd),.p (.lst E),.p (.tup [.str m,.int v])]) rfl (ep G.b G.i S (G.bd.fr O)) (Fr.refl _ _);have M:=w.hi _ _ (aU G.le G.hr) R;refine⟨FL G.i G.kv G.r (.int hd) C A l d o H F q (qt [.str m,.int v]) (qt s) (qt r) (qt k) (ql E) x,FL G.i G.kv G.r (.int hd) C A l d o H F q (qt [.str m,.int v]) (qt s) (qt r) (qt k) (ql E) (qt f),p.set G.r (.lst ((c++[P.tup [.tup (s++k),.tup f]]).map .p)),rfl,?_,⟨_,_,_,_,rfl⟩,(O.trans w).set G.le G.hr _,il M⟩;refine(al (e:=FL G.i G.kv G.r (.int hd) C A l d o H F q (qt [.str m,.int v]) (qt s) (qt r) (qt k) (ql E) (qt f)) (b:=p) ?_).trans ?_
  .rw [dQ,oE,e];rfl
  .rw [iW];have hc:(bV (aC dE (aa 17) (eV (vC .non)))) (FL G.i G.kv G.r (.int hd) C A l d o H F q (qt [.str m,.int v]) (qt s) (qt r) (qt k) (ql E) (qt f)) p=some (true,p):=by simp[dE,de]
   rw[hc,av,if_pos rfl];exact i' rfl M (by simp[N]) M (by lia)
theorem Mq{B:BD}(I:Pln B.fams B.roads B.wishes)(Y:Places B){n:Nat}(j:4≤n){K:List bz}{V:List P}{hd:Nat}{J:Str}{C:Nat}{u p A H:List P}(O:Fam B.roads J C u p A H)(T:(aA B.fams)[hd]? = some (eW J C u p A H)){l:List P}(hw:l.length=A.length)(U:∀w ∈ l,o9 w){a h:Str}
  (hc:(a="who"/\P.str h ∈ A)\/((a="all"\/a="any")/\∃r ∈ B.roads,rA r=J/\h=rB r)) (v:Int) {m:Str} (hm:PyData.strOk m=true) {t:Nat} (ht:t≤10) (N E:P) (o F:Option D) {W:List P} (hW:∀y ∈ W,mn B t y) :
  ∃ys:List P,ys.length≤4 * W.length/\(∀z ∈ ys,mn B (t+1) z)/\∀(G:GS B K V)(L:Lc)(S:aD)(d:List P),(∃i k f q e s,L=FL G.i G.kv G.r (.int (hd:Int)) N E (.tup l) i o F (qs a) (qs h) (qt [.str m,.int v]) k f q e s)->Fr G.b G.S0 S->S[G.r]? = some (.lst (d.map .p))->d.length+4 * W.length≤1000 ->
   ∃L' R,aR (aK [ak 13,ak 14]) (eO (Ph n) (Ph (n-1))) W L S=some (.nx,L',R)/\(∃i k f q e s,L'=FL G.i G.kv G.r (.int (hd:Int)) N E (.tup l) i o F (qs a) (qs h) (qt [.str m,.int v]) k f q e s)/\Fr G.b G.S0 R/\R[G.r]? = some (.lst ((d++ys).map .p)):=by
 obtain⟨tg,h1,h2,h3⟩:=tg_ok I j O T hw U hc;refine d9 (q:=GS B K V) (c:=4) (M:=1000) (Sp:=λG S=>Fr G.b G.S0 S) (r:=λG=>G.r) (Q:=mn B (t+1)) (p:=λG L=>∃i k f q e s,L=FL G.i G.kv G.r (.int (hd:Int)) N E (.tup l) i o F (qs a) (qs h) (qt [.str m,.int v]) k f q e s) (λx hx=>?_);obtain⟨as,rs,rfl,ha1,ha2,hr⟩:=hW x hx;obtain⟨ys,k1,k2,k3⟩:=d9 (q:=GS B K V) (c:=1) (M:=1000) (g:=aK [ak 15,ak 16]) (b:=eP (Ph n) (Ph (n-1))) (e:=tg) (Sp:=λG S=>Fr G.b G.S0 S) (r:=λG=>G.r) (Q:=mn B (t+1)) (p:=λG L=>∃i q e s,L=FL G.i G.kv G.r (.int (hd:Int)) N E (.tup l) i o F (qs a) (qs h) (qt [.str m,.int v]) (qt as) (qt rs) q e s)
  (λy hy=>Mr I Y (by lia) (hd:Int) v hm ht ha1 ha2 hr N E (.tup l) o F (qs a) (qs h) (h2 y hy))
 refine⟨ys,by lia,k2,λG L S d hLp fr hS hM=>?_⟩;obtain⟨i,k,f,q,e,s,rfl⟩:=hLp;obtain⟨S1,e1,fr1⟩:=h3 G.b G.i S (G.bd.fr fr);obtain⟨S2,e2,X⟩:=AK (b:=G.b) (g:=Ph n "targets_of") (u:=ae (aa 0) (ae (aa 1) (ae (aa 9) (ae (aa 10) (ae (aa 5) aV))))) (L:=FL G.i G.kv G.r (.int (hd:Int)) N E (.tup l) i o F (qs a) (qs h) (qt [.str m,.int v]) (qt as) (qt rs) q e s) (S:=S) (l:=[.ref G.i,.p (.int (hd:Int)),.p (.str a),.p (.str h),.p (.tup l)]) rfl e1 fr1;obtain⟨L',R,e3,hL',fr3,h4⟩:=k3 G _ S2 d ⟨i,q,e,s,rfl⟩ (fr.trans X) (X.hi _ _ (aU G.le G.hr) hS) (by lia);obtain⟨d6',Z,q16',q17',rfl⟩:=hL';refine⟨FL G.i G.kv G.r (.int (hd:Int)) N E (.tup l) i o F (qs a) (qs h) (qt [.str m,.int v]) (qt as) (qt rs) q e s,FL G.i G.kv G.r (.int (hd:Int)) N E (.tup l) d6' o F (qs a) (qs h) (qt [.str m,.int v]) (qt as) (qt rs) Z q16' q17',R,rfl,?_,⟨_,_,_,_,_,_,rfl⟩,fr3,h4⟩;unfold eO;rw[bX,i0,e2];exact e3
theorem yQ(r:Fr b x S)(e:b≤x.length)(h:l_ x S d W):∃a,toP 9 d (S++[.lst []])=some (.lst W,a)/\Fr b x a/\a[S.length]? = some (.lst []):=by
 have f:=r.trans (Fr.app b S [.lst []]);rcases h with rfl|⟨k,s,rfl,h⟩
 .exact⟨_,by simp,f,gK _ _⟩
 .have l:=h.lt;refine⟨_,(h.fr (Fr.app b S [.lst []])).frz,f.set e s _,?_⟩;rw[aX (by lia)];exact gK _ _
section
variable{B:BD}(I:Pln B.fams B.roads B.wishes)(Y:Places B){n:Nat}(j:5≤n){K:List bz}{V:List P}{hd:Nat}{J:Str}{C:Nat}{u p A H:List P}(O:Fam B.roads J C u p A H)(T:(aA B.fams)[hd]? = some (eW J C u p A H)){l:List P}(hw:l.length=A.length)(U:∀w ∈ l,o9 w){N:List P}(q:∀x ∈ N,jo x)(a:ll N K V)
include I Y j O T hw U q a
theorem LC(s Q:P):∀{o:List P},(∀c ∈ o,kC J B.roads A N c)->∀{t:Nat},t+o.length≤10->∀{W:List P},(∀y ∈ W,mn B t y)->4 ^ o.length * W.length≤900 ->
  ∃ys:List P,ys.length≤4 ^ o.length * W.length/\(∀y ∈ ys,mn B (t+o.length) y)/\∀(b i:Nat)(j S:aD)(d:Nat)(z:D)(q7 q8 q9 Z H g h e k f p:Option D),Bd B b i j->b≤d->j[d]? = some (.fz (.dct K V))->Fr b j S->l_ j S z W ->
   ∃L' S' d',aR (aK [ak 7,ak 8,ak 9,ak 10]) (eN (Ph n) (Ph (n-1))) o [qr i,qi (hd:Int),qp s,qr d,qp Q,qt l,some z,q7,q8,q9,Z,H,g,h,e,k,f,p] S=some (.nx,L',S')/\L'[6]? = some (some d')/\Fr b j S'/\l_ j S' d' ys
 | [],_,t,_,W,hW,_=>⟨W,by simp,by simpa using hW,λb i j S d z q7 q8 q9 Z H g h e k f p _ _ _ fr ha=>⟨_,S,z,rfl,rfl,fr,ha⟩⟩
 |c::o,E,t,ht,W,hW,R=>by
  simp only[bt]at ht;rw[bt,Nat.pow_succ,Nat.mul_assoc]at R;have h4:4 * W.length≤900:=aU (Nat.le_mul_of_pos_left _ (Nat.pow_pos (by decide))) R;obtain⟨m,tr,u,w,hm,_,hsum,hcw,rfl⟩:=E c List.mem_cons_self;obtain⟨v,ev⟩:=nE q a hsum (n:=n) (by lia);obtain⟨ys,h1,h2,h3⟩:=Mq I Y (n:=n) (by lia) (K:=K) (V:=V) O T hw U hcw v hm (t:=t) (by lia) s Q (qs m) (qp tr) hW;obtain⟨zs,k1,k2,k3⟩:=LC s Q (o:=o) (λx hx=>E x (a6 _ hx)) (t:=t+1) (by lia) (W:=ys) h2 (aU (Nat.mul_le_mul_left _ h1) R);refine⟨zs,?_,λy hy=>by rw[bt,show t+(o.length+1)=t+1+o.length by lia];exact k2 y hy,λb i j S d z q7 q8 q9 Z H g h e k f p hB X hk fr ha=>?_⟩
  .rw [bt,Nat.pow_succ,Nat.mul_assoc];exact aU k1 (Nat.mul_le_mul_left _ h1)
  .obtain⟨S1,e1,fr1,hS1⟩:=yQ fr hB.le ha;obtain⟨L2,S2,e2,⟨d6',F,C,G,L,M,rfl⟩,fr2,hS2⟩:=h3 { b:=b,i:=i,S0:=j,r:=S.length,bd:=hB,hr:=fr.len,kv:=d,hkv:=X,hk:=hk } (FL i d S.length (.int (hd:Int)) s Q (.tup l) (some z) (qs m) (qp tr) (qs u) (qs w) (qt [.str m,.int v]) h e k f p) S1 [] ⟨_,_,_,_,_,_,rfl⟩ fr1 hS1 (by simp;lia);obtain⟨L',S',d',e3,h5,fr3,ha3⟩:=k3 b i j S2 d (.ref S.length) (qs m) (qp tr) (qs u) (qs w) (qt [.str m,.int v]) (qr S.length) F C G L M hB X hk fr2 (.inr ⟨S.length,fr.len,rfl,.inl hS2⟩);refine⟨L',S',d',?_,h5,fr3,ha3⟩;refine(bR (s:=[qr i,qi (hd:Int),qp s,qr d,qp Q,qt l,some z,qs m,qp tr,qs u,qs w,H,g,h,e,k,f,p]) rfl ?_).trans e3;have tv:toP 9 (.ref d) S=some (.dct K V,S):=by
    have:=fr.hi _ _ X hk;simp[toP,this]
   unfold eN;refine(al (e:=[qr i,qi (hd:Int),qp s,qr d,qp Q,qt l,some z,qs m,qp tr,qs u,qs w,qt [.str m,.int v],g,h,e,k,f,p]) (b:=S) ?_).trans ?_
   .simp [tv,ev]
   refine(al (e:=FL i d S.length (.int (hd:Int)) s Q (.tup l) (some z) (qs m) (qp tr) (qs u) (qs w) (qt [.str m,.int v]) h e k f p) (b:=S++[.lst []]) ?_).trans ?_
   .simp
   refine(al (e:=FL i d S.length (.int (hd:Int)) s Q (.tup l) d6' (qs m) (qp tr) (qs u) (qs w) (qt [.str m,.int v]) F C G L M) (b:=S2) ?_).trans ?_
   .rw [bX,i0];show aG (aG (toP 9 z (S++[.lst []])) _) _=_;rw[e1];exact e2
   .rfl
theorem G7(E:∀c ∈ f,kC J B.roads A N c)(m:f.length≤3)(L:bB B o) :
  ∃s:List P,s.length≤64/\(∀y ∈ s,mn B 3 y)/\∀(b i:Nat)(S:aD)(k:Nat),Bd B b i S->b≤k->S[k]? = some (.fz (.dct K V)) ->
   ∃d x,Ph (n+1) "sendings" [.ref i,.p (.int (hd:Int)),.p (.lst f),.ref k,.p (.tup o),.p (.tup l)] S=some (d,x)/\Fr b S x/\l_ S x d s:=by
 have Z:4 ^ f.length≤64:=by have:=Nat.pow_le_pow_right (show 0 < 4 by decide) m;simpa using this
 obtain⟨s,g,z,H⟩:=LC I Y j O T hw U q a (.lst f) (.tup o) E (t:=0) (by lia) (W:=[.tup [.tup [],.tup o]]) (λy r=>⟨[],o,by simpa using r,by simp,λ_ h=>(by cases h),L⟩) (by simp;lia);simp only[List.length_singleton,Nat.mul_one]at g;refine⟨s,by lia,λy r=>?_,λb i S k C v G=>?_⟩
 .obtain⟨p,R,e,k1,M,Q⟩:=z y r;exact⟨p,R,e,by lia,M,Q⟩
 .obtain⟨X,x,w,e,F,u,D⟩:=H b i S S k (.p (.lst [.tup [.tup [],.tup o]])) none none none none none none none none none none none C v G (Fr.refl _ _) (.inl rfl);refine⟨w,x,?_,u,D⟩;obtain⟨n,rfl⟩:=MP (n:=n) (by first|assumption|lia);rw[gE];simp only[jy]at e;simp[cM,ei,e,F]
end
def wa(f x:P):Prop:=∃J C u p A H,f=eW J C u p A H/\∃(r:Nat)(c l:List P),x=.tup [.int (r:Int),.tup c,.tup l]/\r < u.length/\CellsOk p c/\l.length=A.length/\∀w ∈ l,o9 w
structure StL(B:BD)(hs rds:List P):Prop where
 hl:hs.length=(aA B.fams).length
 hh:∀(k:Nat) f x,(aA B.fams)[k]? = some f->hs[k]? = some x->wa f x
 hr:bB B rds
def Cw(B:BD)(st:P):Prop:=∃E o,st=.tup [.tup E,.tup o]/\StL B E o
def LB(y:P):Prop:=(∃s:Str,y=.str s/\s.length≤100)\/(∃i,y=.int i)\/(∃x,y=.tup x)\/y=.non
def Ac(d:P):Prop:=∃w k x h,d=.tup (.str w::.int k::x::h)/\h.length≤2/\∀y ∈ P.str w::.int k::x::h,bC 2 y=true/\LB y
def jb(B:BD)(y:P):Prop:=∃d st,y=.tup [d,st]/\Ac d/\Cw B st
abbrev SL(i:Nat)(st hd step y f r:P)(n k b q h x a e s:Option D):Lc:=[qr i,qp st,qp hd,qp step,qp y,qp f,qp r,n,k,b,q,h,x,a,e,s]
theorem E6{p:List P}{K:List bz}{V:List P}(a:ll (o5 p) K V){n:List bz}{f:List P}{z:Int}(c:z.natAbs≤999)(h:∀k,bG k n f=if (.inr "it":bz)=k then some (.int z) else bG k K V):ll (o5 p++[.str "it"]) n f:=λx s=>by
 by_cases q:("it":Str)=x
 .exact⟨z,c,by rw[h,if_pos (by rw[q])]⟩
 .rcases dA.mp s with s|s
  .obtain⟨i,b,e⟩:=a x s;exact⟨i,b,by rw[h,if_neg λw=>q (jr w)];exact e⟩
  .exact absurd (P.str.inj (iO.mp s)).symm q
variable{B:BD}{n:Nat}{hd:Nat}{J:Str}{C:Nat}{u:List P}{p:List P}{A:List P}{H:List P}{o:List P}
theorem G6(I:Pln B.fams B.roads B.wishes)(j:2≤n)(O:Fam B.roads J C u p A H)(U:CellsOk p d)(Y:bB B o)(ht:jK J B.roads A tk)(hy:(tk=.non/\y=.non)\/(tk≠.non/\uK B o hd y)) :
  ∃(K:List bz)(V G:List P),ll (o5 p++more tk) K V/\bB B G/\∀(b i:Nat)(S:aD)(st step f r:P)(g F t q x a c:Option D),Bd B b i S->∃T,
   dW (bV (aC dE (aa 4) (eV (vC (.non))))) (af (am 11 (vK (d6 (aT Att) (aa 0) "places") (v2 (ac ar (vv 4) (vi 0)) (vv 2))))
    (af (dI (aa 10) (vt "it") (ac ar (ac ar (ac ar (vv 9) (vv 11)) (ac ar (vv 4) (vi 1))) (vi 1)))
    (am 9 (eV (ah (pureOf (Ph n "replaced")) (v3 (vv 9) (vv 11) (ah (pureOf (Ph n "without")) (v2 (ac ar (vv 9) (vv 11)) (ac ar (vv 4) (vi 1)))))))))) ff
    (SL i st (.int (hd:Int)) step y f r g F (qt o) (qr S.length) t q x a c) (S++[.dct (cT p) (d.map .p)])=some (.nx,SL i st (.int (hd:Int)) step y f r g F (qt G) (qr S.length) T q x a c,S++[.dct K (V.map .p)]):=by
 have E:=rQ U;rcases hy with ⟨rfl,rfl⟩|⟨R,s,v,k,L,rfl,hg,hk,Q,w,Z⟩
 .exact⟨cT p,d,o,by simpa[more] using E,Y,λb i S st step f r g F t q x a c hB=>⟨t,by simp[dE,de]⟩⟩
 .have hm:more tk=[.str "it"]:=by
   cases tk with
   |non=>exact absurd rfl R
   |_=>rfl
  have hls3:=w.1;have M:L[v]? = some L[v]:=dY Z;obtain⟨m,z,_,hz,hzl⟩:=w.2 L[v] (gc _);rw[hzl]at M;have X:(cT p).length=d.length:=by rw[U.1];simp[cT]
  obtain⟨K,V,e,h1,h2,h3,h4,h5⟩:=sk (.inr "it") (.int z) (cT p) d (jJ O.hce) X;have ew:=CB j (xs:=L) (k:=v) (by lia);have hpl:=oV I;have hrl:=Y.1;have er:=nP j (xs:=o) (k:=k) hk (by lia) (.tup (L.eraseIdx v));have hcl:=O.cl;have N:(cT p).length≤1000000:=by have:=U.1;lia
  refine⟨K,V,o.set k (.tup (L.eraseIdx v)),by rw[hm];exact E6 E hz h5,Y.set k ⟨aU (List.length_eraseIdx_le ..) w.1,λl h=>w.2 l (List.mem_of_mem_eraseIdx h)⟩,λb i S st step f r g F t q x a c hB=>⟨qi (k:Int),?_⟩⟩;obtain⟨jh,jp,jl,jm,mk,mv,h⟩:=hB.fr (Fr.app b S [.dct (cT p) (d.map .p)]);rw[iW];have W:(bV (aC dE (aa 4) (eV (vC (.non))))) (SL i st (.int (hd:Int)) step (.tup [.int (s:Int),.int (v:Int)]) f r g F (qt o) (qr S.length) t q x a c) (S++[.dct (cT p) (d.map .p)])=some (true,S++[.dct (cT p) (d.map .p)]):=by simp[dE,de]
  rw[W,av,if_pos rfl];refine(al (e:=SL i st (.int (hd:Int)) step (.tup [.int (s:Int),.int (v:Int)]) f r g F (qt o) (qr S.length) (qi (k:Int)) q x a c) (b:=S++[.dct (cT p) (d.map .p)]) ?_).trans ?_
  .rw [dQ,wY,h.places rfl];simp[iX,h.pl,cw,cj,hg]
  refine(al (e:=SL i st (.int (hd:Int)) step (.tup [.int (s:Int),.int (v:Int)]) f r g F (qt o) (qr S.length) (qi (k:Int)) q x a c) (b:=S++[.dct K (V.map .p)]) ?_).trans ?_
  .have e2:nO (aa 10) (vt "it") (ac ar (ac ar (ac ar (vv 9) (vv 11)) (ac ar (vv 4) (vi 1))) (vi 1)) (SL i st (.int (hd:Int)) step (.tup [.int (s:Int),.int (v:Int)]) f r g F (qt o) (qr S.length) (qi (k:Int)) q x a c) (S++[.dct (cT p) (d.map .p)])=some (.nx,SL i st (.int (hd:Int)) step (.tup [.int (s:Int),.int (v:Int)]) f r g F (qt o) (qr S.length) (qi (k:Int)) q x a c,S++[.dct K (V.map .p)]):=by
    simp[nO,bF Q,bF M,jE,cj,jJ O.hce,N,e]
   unfold dI;rw[e2]
  .simp [bF Q,ew,er]
variable{E:List P}
theorem DP(h:StL B E o)(T:(aA B.fams)[hd]? = some (eW J C u p A H))(s:r < u.length)(n:CellsOk p c)(b:l.length=A.length)(m:∀w ∈ l,o9 w)(t:bB B d):StL B (E.set hd (.tup [.int (r:Int),.tup c,.tup l])) d:=by
 refine⟨by rw[dZ];exact h.hl,λk f x e a=>?_,t⟩;by_cases q:hd=k
 .subst q;rw[T]at e;cases e;rw[dX (by rw[h.hl];exact aW T)]at a;cases a;exact⟨J,C,u,p,A,H,rfl,r,c,l,rfl,s,n,b,m⟩
 .rw [aX q]at a;exact h.hh k f x e a
theorem G5(I:Pln B.fams B.roads B.wishes)(Y:Places B)(j:8≤n)(O:Fam B.roads J C u p A H)(T:(aA B.fams)[hd]? = some (eW J C u p A H))(hS:StL B E o)(hx:PyData.strOk x=true/\x.length≤100)(hSt:Stp J u p A B.roads rm wh tk chg sn rm2)(hy:(tk=.non/\y=.non)\/(tk≠.non/\uK B o hd y)) :
  ∃ys:List P,ys.length≤64/\(∀z ∈ ys,jb B z)/\∀(b i:Nat)(S:aD),Bd B b i S->∃d S',Ph n "step_ends" [.ref i,.p (.tup [.tup E,.tup o]),.p (.int (hd:Int)),.p (fy x rm wh tk chg sn rm2),.p y] S=some (d,S')/\Fr b S S'/\l_ S S' d ys:=by
 obtain⟨n,rfl⟩:=gp (n:=n) (by first|assumption|lia);have hhd:hd < E.length:=by rw[hS.hl];exact aW T
 have hhx:E[hd]? = some E[hd]:=dY hhd;obtain⟨_,_,_,_,_,_,hfe,r,cs,l,hxe,hr1,hcs,hwl,U⟩:=hS.hh hd _ _ T hhx;rw[hxe]at hhx;obtain⟨rfl,hce,rfl,rfl,rfl,rfl⟩:J=_/\C=_/\u=_/\p=_/\A=_/\H=_:=by simp only[P.tup.injEq,m5,P.str.injEq,P.int.injEq,P.lst.injEq,and_true]at hfe;obtain⟨m,b,c,d,e,f⟩:=hfe;exact⟨m,Int.ofNat.inj b,c,d,e,f⟩
 subst hce;obtain⟨K,V,F,a,hr',eit⟩:=G6 I (n:=n+1) (by lia) O hcs hS.hr hSt.htk hy;obtain⟨ans,hans,ecb⟩:=IJ (n:=n+1) (by lia) O hcs (x:=x) hSt a;have hy2:(tk=.non/\y=.non)\/(tk≠.non/\z5 y):=by
  rcases hy with h|⟨h1,s,sp,_,_,e,_⟩
  .exact .inl h
  .exact .inr ⟨h1,s,sp,e⟩
 obtain⟨Z,hwl',hwi',ewb⟩:=Gs (n:=n+1) (by lia) O hwl U hSt.htk hy2;have q:∀x ∈ o5 p++more tk,jo x:=λx hx=>(dA.mp hx).elim (nY O.hce.1 x) (nc tk x);obtain⟨W,hW1,hW2,esd⟩:=G7 I Y (n:=n) (by lia) O T hwl' hwi' q a hSt.hsn hSt.sl hr';let st:P:=.tup [.tup E,.tup o]
 let step:P:=fy x rm wh tk chg sn rm2
 let v:P:=eW J C u p A H
 have pre:∀(b i:Nat) (S:aD),Bd B b i S->∃N,∀g:ES,(af (am 5 (dS (mT Tb (Ph (n+1))) (aa 0) "family_of" (ae (aa 2) aV)))
   (af (tw (aK [ak 6,ak 7,ak 8]) (ac ar (ac ar (vv 1) (vi 0)) (vv 2)))
   (af (am 9 (eV (ac ar (vv 1) (vi 1))))
   (af (am 10 (gq (Ph (n+1) "values_of") (ae (aa 5) (ae (aa 7) aV))))
   (af (dW (bV (aC dE (aa 4) (eV (vC (.non))))) (af (am 11 (vK (d6 (aT Att) (aa 0) "places") (v2 (ac ar (vv 4) (vi 0)) (vv 2))))
    (af (dI (aa 10) (vt "it") (ac ar (ac ar (ac ar (vv 9) (vv 11)) (ac ar (vv 4) (vi 1))) (vi 1)))
    (am 9 (eV (ah (pureOf (Ph (n+1) "replaced")) (v3 (vv 9) (vv 11) (ah (pureOf (Ph (n+1) "without")) (v2 (ac ar (vv 9) (vv 11)) (ac ar (vv 4) (vi 1)))))))))) ff) g)))))
   [qr i,qp st,qi (hd:Int),qp step,qp y,none,none,none,none,none,none,none,none,none,none,none] S=g (SL i st (.int (hd:Int)) step y v (.int (r:Int)) (qt cs) (qt l) (qt F) (qr S.length) N none none none none) (S++[.dct K (V.map .p)]):=λb i S hB=>by
  have ef:=vJ (n:=n+1) (by lia) hB T;obtain⟨N,e5⟩:=eit b i S st step v (.int (r:Int)) (qt cs) (qt l) none none none none none hB;obtain⟨jh,jp,jl,jm,mk,mv,h⟩:=hB;refine⟨N,λg=>?_⟩;refine(al (e:=[qr i,qp st,qi (hd:Int),qp step,qp y,qp v,none,none,none,none,none,none,none,none,none,none]) (b:=S) ?_).trans ?_
  .rw [dQ,h.meth rfl (Jq _) Jt (l:=[.p (.int (hd:Int))]) (by simp),ef];rfl
  refine(al (e:=SL i st (.int (hd:Int)) step y v (.int (r:Int)) (qt cs) (qt l) none none none none none none none) (b:=S) ?_).trans ?_
  .simp [st,bF hhx]
  refine(al (e:=SL i st (.int (hd:Int)) step y v (.int (r:Int)) (qt cs) (qt l) (qt o) none none none none none none) (b:=S) ?_).trans ?_
  .simp [st]
  refine(al (e:=SL i st (.int (hd:Int)) step y v (.int (r:Int)) (qt cs) (qt l) (qt o) (qr S.length) none none none none none) (b:=S++[.dct (cT p) (cs.map .p)]) ?_).trans ?_
  .rw [dQ,x9];show aG (aG (some ([D.p v,D.p (.tup cs)],S)) _) _=_;rw[av,wf (n:=n+1) (by lia) O hcs S];rfl
  exact al e5
 have tv:∀S:aD,toP 9 (.ref S.length) (S++[.dct K (V.map .p)])=some (.dct K V,S++[.fz (.dct K V)]):=λS=>by have:rO (toP 8) (V.map .p) (S++[.dct K (V.map .p)])=some (V,S++[.dct K (V.map .p)]):=kY ..;simp[toP,this]
 rcases hans with rfl|⟨R,hcs',rfl⟩
 .refine⟨[],by simp,λ_ h=>(by cases h),λb i S hB=>⟨.p (.lst []),S++[.fz (.dct K V)],?_,Fr.app _ _ _,.inl rfl⟩⟩;obtain⟨N,ep⟩:=pre b i S hB;rw[eJ];show(match bJ _ _ [qr i,qp st,qi (hd:Int),qp step,qp y,none,none,none,none,none,none,none,none,none,none,none] S with|some (.rt d,_,S')=>some (d,S')|some (.nx,_,S')=>some (.p .non,S')|_=>none)=_;unfold bJ;rw[ep];simp only[v,step]at ecb ⊢;simp[tv,ecb,ni,de]
 .obtain⟨t,hj,ej⟩:=om (xs:=u) (s:=rm2) (λz hz=>(O.hro z hz).ok 19) hSt.h2;have h4:=gM I;have hsl:=hS.hl;have er:=nP (n:=n+1) (by lia) (xs:=E) (k:=hd) hhd (by lia) (.tup [.int (t:Int),.tup R,.tup Z]);have oy:bC 2 y=true/\LB y:=by
   rcases hy2 with ⟨_,rfl⟩|⟨_,s,sp,rfl⟩
   .exact⟨rfl,.inr (.inr (.inr rfl))⟩
   .exact⟨by simp,.inr (.inr (.inl ⟨_,rfl⟩))⟩
  generalize hhs:E.set hd (.tup [.int (t:Int),.tup R,.tup Z])=X at er;have hst':∀{rs:List P},bB B rs->StL B X rs:=λhr=>by rw[<- hhs];exact DP hS T hj hcs' hwl' hwi' hr
  obtain⟨ys,h1,h2,h3⟩:=d9 (q:=GC B) (g:=aK [ak 14,ak 15]) (b:=fM (Ph (n+1)) (Ph n)) (Sp:=λG S=>Fr G.b G.S0 S) (r:=λG=>G.r) (Q:=jb B) (c:=1) (M:=1000) (e:=W)
   (p:=fun G L=>∃N q14 q15,L=SL G.i st (.int (hd:Int)) step y v (.int (r:Int)) (qt R) (qt Z) (qt F) (qr G.S0.length) N (qt X) (qr G.r) q14 q15) (fun w hw=>by
    obtain⟨as,rs,rfl,ha1,ha2,hr⟩:=hW2 w hw;have oas:bC 2 (.tup as)=true:=bc.mpr λm ha=>(ha2 m ha).ok 1;refine⟨[.tup [.tup [.str "step",.int (hd:Int),.str x,y,.tup as],.tup [.tup X,.tup rs]]],by simp,λz hz=>⟨.tup [.str "step",.int (hd:Int),.str x,y,.tup as],.tup [.tup X,.tup rs],by simpa using hz,⟨_,_,_,_,rfl,by simp,λd hd=>?_⟩,X,rs,rfl,hst' hr⟩,λG L S acc hLp fr hS' hM=>?_⟩
    .simp only[ba,dB,du]at hd;rcases hd with rfl|rfl|rfl|rfl|rfl
     .exact⟨by simp,.inl ⟨_,rfl,by decide +kernel⟩⟩
     .exact⟨by simp,.inr (.inl ⟨_,rfl⟩)⟩
     .exact⟨by simpa using hx.1,.inl ⟨_,rfl,hx.2⟩⟩
     .exact oy
     .exact⟨oas,.inr (.inr (.inl ⟨_,rfl⟩))⟩
    .obtain⟨N,q14,q15,rfl⟩:=hLp;refine⟨SL G.i st (.int (hd:Int)) step y v (.int (r:Int)) (qt R) (qt Z) (qt F) (qr G.S0.length) N (qt X) (qr G.r) (qt as) (qt rs),_,_,rfl,i' rfl hS' (y:=.tup [.tup [.str "step",.int (hd:Int),.str x,y,.tup as],.tup [.tup X,.tup rs]]) ?_ hS' (by lia),⟨_,_,_,rfl⟩,fr.set G.le G.hr _,il hS'⟩;simp[step])
  refine⟨ys,by lia,h2,λb i S hB=>?_⟩;obtain⟨N,ep⟩:=pre b i S hB;have frA:=Fr.app b S [.fz (.dct K V),.lst []];have hk0:(S++[SO.fz (.dct K V),.lst []])[S.length]? = some (.fz (.dct K V)):=by simp
  have hk1:(S++[SO.fz (.dct K V),.lst []])[S.length+1]? = some (.lst []):=by simp
  obtain⟨d1,S1,e1,fr1,an1⟩:=esd b i (S++[.fz (.dct K V),.lst []]) S.length (hB.fr frA) hB.le hk0;have hb1:b≤(S++[SO.fz (.dct K V),.lst []]).length:=aU hB.le (by simp);obtain⟨S2,e2,fr2⟩:=oR (b:=b) (g:=Ph (n+1) "sendings") (u:=ae (aa 0) (ae (aa 2) (ae (eV (ac ar (vv 3) (vi 5))) (ae (aa 10) (ae (aa 9) (ae (aa 8) aV)))))) (L:=SL i st (.int (hd:Int)) step y v (.int (r:Int)) (qt R) (qt Z) (qt F) (qr S.length) N (qt X) (qr (S.length+1)) none none) (S:=S++[.fz (.dct K V),.lst []]) (l:=[.ref i,.p (.int (hd:Int)),.p (.lst sn),.ref S.length,.p (.tup F),.p (.tup Z)]) (by simp[step,G1]) e1 fr1 hb1 an1;obtain⟨L',S',e3,hL',fr3,h5⟩:=h3 ⟨b,i,S,S.length+1,hB,by lia⟩ _ S2 [] ⟨N,none,none,rfl⟩ (frA.trans fr2) (fr2.hi _ _ (aU hB.le (by lia)) hk1) (by simp;lia);obtain⟨q11',q14',q15',rfl⟩:=hL';refine⟨.ref (S.length+1),S',?_,fr3,.inr ⟨S.length+1,by lia,rfl,.inl h5⟩⟩;rw[eJ];show(match bJ _ _ [qr i,qp st,qi (hd:Int),qp step,qp y,none,none,none,none,none,none,none,none,none,none,none] S with|some (.rt d,_,S')=>some (d,S')|some (.nx,_,S')=>some (.p .non,S')|_=>none)=_;unfold bJ;rw[ep];rw[al (e:=SL i st (.int (hd:Int)) step y v (.int (r:Int)) (qt R) (qt l) (qt F) (qr S.length) N none none none none) (b:=S++[.fz (.dct K V)]) (by simp[tv,v,step,ecb])];rw[al (e:=SL i st (.int (hd:Int)) step y v (.int (r:Int)) (qt R) (qt l) (qt F) (qr S.length) N none none none none) (b:=S++[.fz (.dct K V)]) (by simp[ni,de])];rw[al (e:=SL i st (.int (hd:Int)) step y v (.int (r:Int)) (qt R) (qt Z) (qt F) (qr S.length) N none none none none) (b:=S++[.fz (.dct K V)]) (by simp[v,step,tt,ewb])];rw[al (e:=SL i st (.int (hd:Int)) step y v (.int (r:Int)) (qt R) (qt Z) (qt F) (qr S.length) N (qt X) none none none) (b:=S++[.fz (.dct K V)]) (by simp[v,step,st,yW,La,ej,er])];rw[al (e:=SL i st (.int (hd:Int)) step y v (.int (r:Int)) (qt R) (qt Z) (qt F) (qr S.length) N (qt X) (qr (S.length+1)) none none) (b:=S++[.fz (.dct K V),.lst []]) (by simp)];rw[al (e:=SL i st (.int (hd:Int)) step y v (.int (r:Int)) (qt R) (qt Z) (qt F) (qr S.length) q11' (qt X) (qr (S.length+1)) q14' q15') (b:=S') (by rw[bX,i0,e2];exact e3)];rfl
theorem Ib(I:Pln B.fams B.roads B.wishes)(Y:Places B)(j:12≤n)(T:(aA B.fams)[hd]? = some f)(hS:StL B E o) :
  ∃ys:List P,ys.length≤6144/\(∀z ∈ ys,jb B z)/\∀(b i:Nat)(S:aD),Bd B b i S->∃d F,Ph n "hand_ends" [.ref i,.p (.tup [.tup E,.tup o]),.p (.int (hd:Int))] S=some (d,F)/\Fr b S F/\l_ S F d ys:=by
 obtain⟨n,rfl⟩:=gp (n:=n) (by first|assumption|lia);obtain⟨J,C,u,p,A,H,O,rfl⟩:=jM I.hf (bL T);have hhd:hd < E.length:=by rw[hS.hl];exact aW T
 have hhx:E[hd]? = some E[hd]:=dY hhd;obtain⟨_,_,_,_,_,_,hfe,r,cs,l,hxe,hr1,hcs,hwl,U⟩:=hS.hh hd _ _ T hhx;rw[hxe]at hhx;obtain⟨rfl,hce,rfl,rfl,rfl,rfl⟩:J=_/\C=_/\u=_/\p=_/\A=_/\H=_:=by simp only[P.tup.injEq,m5,P.str.injEq,P.int.injEq,P.lst.injEq,and_true]at hfe;obtain⟨a,b,c,d,e,f⟩:=hfe;exact⟨a,Int.ofNat.inj b,c,d,e,f⟩
 subst hce;have ev:=xo (n:=n+1) (by lia) O hcs;have henv:=rQ hcs;have hrg:u[r]? = some u[r]:=dY hr1;obtain⟨rn,hrn,hre⟩:=O.hro u[r] (gc _);rw[hre]at hrg;let t:Nat->Nat->Option D->Option D->Lc:=λi r' q9 s=>[qr i,qt [.tup E,.tup o],qi (hd:Int),qp (eW J C u p A H),qi (r:Int),qt cs,qt l,qp (.dct (cT p) cs),qr r',q9,s]
 obtain⟨ys,h1,h2,h3⟩:=d9 (q:=GC B) (g:=ak 9) (b:=dm (Ph (n+1)) (Ph n)) (Sp:=fun G S=>Fr G.b G.S0 S) (r:=fun G=>G.r) (Q:=jb B) (c:=768) (M:=10000) (e:=H) (p:=fun G L=>∃q9 s,L=t G.i G.r q9 s) (fun x hx=>by
  obtain⟨X,v,Z,V,k,W,m,hsx,hSt,rfl⟩:=O.hst x hx;obtain⟨v,hrm,rfl⟩:=O.hro v hSt.h1;obtain⟨hb,eh⟩:=Ak (nY O.hce.1) henv hSt.wh (n:=n+1) (by lia);have R:∀(i r':Nat)(s:Option D)(S:aD),(g8 (bV (aC eC (eV (ac ar (vv 9) (vi 1))) (eV (ac ar (ac ar (vv 3) (vi 2)) (vv 4))))) (bT (eV (ah (pureOf (Ph (n+1) "holds")) (v2 (ac ar (vv 9) (vi 2)) (vv 7)))))) (t i r' (qp (fy X (.str v) Z V k W m)) s) S=some (decide (v=rn) && hb,S):=λi r' s S=>by by_cases q:v=rn<;>simp[t,La,bF hrg,q,eh]
  cases hc:(decide (v=rn) && hb) with
  |false=>refine⟨[],by simp,λ_ h=>(by cases h),λG L S acc N fr w hM=>?_⟩;obtain⟨q9,s,rfl⟩:=N;refine⟨t G.i G.r (qp (fy X (.str v) Z V k W m)) s,t G.i G.r (qp (fy X (.str v) Z V k W m)) s,S,rfl,?_,⟨_,_,rfl⟩,fr,by simpa using w⟩;unfold dm;rw[iW,R,hc];rfl
  |true=>
   obtain⟨ls,hl1,hl2,el⟩:=Bk I Y (n:=n+1) (by lia) T hS.hr hSt.htk;obtain⟨ys,k1,k2,k3⟩:=d9 (q:=GC B) (g:=ak 10) (b:=fQ (Ph (n+1)) (Ph n)) (Sp:=λG S=>Fr G.b G.S0 S) (r:=λG=>G.r) (Q:=jb B) (c:=64) (M:=10000) (e:=ls) (p:=λG L=>∃s,L=t G.i G.r (qp (fy X (.str v) Z V k W m)) s) (λy hy=>by obtain⟨es,m1,m2,m3⟩:=G5 I Y (n:=n+1) (by lia) O T hS hsx hSt (hl2 y hy);refine⟨es,m1,m2,λG L S acc N fr w hM=>?_⟩;obtain⟨s,rfl⟩:=N;obtain⟨d,S1,e1,fr1,an⟩:=m3 G.b G.i S (G.bd.fr fr);obtain⟨S2,e2,K⟩:=oR (b:=G.b) (g:=Ph (n+1) "step_ends") (u:=ae (aa 0) (ae (aa 1) (ae (aa 2) (ae (aa 9) (ae (aa 10) aV))))) (L:=t G.i G.r (qp (fy X (.str v) Z V k W m)) (qp y)) (S:=S) (l:=[.ref G.i,.p (.tup [.tup E,.tup o]),.p (.int (hd:Int)),.p (fy X (.str v) Z V k W m),.p y]) rfl e1 fr1 (aU G.le fr.len) an;have hS2:=K.hi _ _ (aU G.le G.hr) w;exact⟨t G.i G.r (qp (fy X (.str v) Z V k W m)) (qp y),_,_,rfl,k7 rfl w e2 hS2 (by lia),⟨_,rfl⟩,(fr.trans K).set G.le G.hr _,il hS2⟩)
   refine⟨ys,by lia,k2,λG L S acc N fr w hM=>?_⟩;obtain⟨q9,s,rfl⟩:=N;obtain⟨d,S1,e1,fr1,an⟩:=el G.b G.i S (G.bd.fr fr);obtain⟨S2,e2,K⟩:=oR (b:=G.b) (g:=Ph (n+1) "takeable") (u:=ae (aa 0) (ae (eV (ac ar (vv 1) (vi 1))) (ae (aa 2) (ae (eV (ac ar (vv 9) (vi 3))) aV)))) (L:=t G.i G.r (qp (fy X (.str v) Z V k W m)) s) (S:=S) (l:=[.ref G.i,.p (.tup o),.p (.int (hd:Int)),.p V]) (by simp[t,tt]) e1 fr1 (aU G.le fr.len) an;obtain⟨L',F,e3,⟨q10',rfl⟩,fr3,h5⟩:=k3 G _ S2 acc ⟨s,rfl⟩ (fr.trans K) (K.hi _ _ (aU G.le G.hr) w) (by lia);refine⟨t G.i G.r (qp (fy X (.str v) Z V k W m)) s,t G.i G.r (qp (fy X (.str v) Z V k W m)) q10',F,rfl,?_,⟨_,_,rfl⟩,fr3,h5⟩;unfold dm;rw[iW,R,hc];show cb _ _ _ _ _=_;rw[bX,i0,e2];exact e3)
 have hsl:=O.sl;refine⟨ys,by lia,h2,λb i S hB=>?_⟩;obtain⟨L',F,e3,⟨q9,s,rfl⟩,fr3,h5⟩:=h3 ⟨b,i,S,S.length,hB,Nat.le_refl _⟩ (t i S.length none none) (S++[.lst []]) [] ⟨none,none,rfl⟩ (Fr.app _ _ _) (gK _ _) (by simp;lia);refine⟨.ref S.length,F,?_,fr3,.inr ⟨S.length,Nat.le_refl _,rfl,.inl h5⟩⟩;have ef:=vJ (n:=n+1) (by lia) hB T;obtain⟨jh,jp,jl,jm,mk,mv,h⟩:=hB;rw[fV];show(match cR _ _ [qr i,qt [.tup E,.tup o],qi (hd:Int),none,none,none,none,none,none,none,none] S with|some (.rt d,_,F)=>some (d,F)|some (.nx,_,F)=>some (.p .non,F)|_=>none)=_;unfold cR;rw[al (e:=[qr i,qt [.tup E,.tup o],qi (hd:Int),qp (eW J C u p A H),none,none,none,none,none,none,none]) (b:=S) (by rw[dQ,h.meth rfl (Jq _) Jt (l:=[.p (.int (hd:Int))]) rfl,ef];rfl)];rw[al (e:=[qr i,qt [.tup E,.tup o],qi (hd:Int),qp (eW J C u p A H),qi (r:Int),qt cs,qt l,none,none,none,none]) (b:=S) (by simp[bF hhx])];rw[al (e:=[qr i,qt [.tup E,.tup o],qi (hd:Int),qp (eW J C u p A H),qi (r:Int),qt cs,qt l,qp (.dct (cT p) cs),none,none,none]) (b:=S) (by simp[ev])];rw[al (e:=t i S.length none none) (b:=S++[.lst []]) rfl];rw[al (e:=t i S.length q9 s) (b:=F) (by rw[bX,i0,show(ac ar (vv 3) (vi 5)) (t i S.length none none) (S++[.lst []])=some (.lst H,S++[.lst []]) by simp[t,MN]];exact e3)];rfl
theorem C1{B:BD}(I:Pln B.fams B.roads B.wishes){n:Nat}(j:5≤n){w:Str}(hw:w="lose"\/w="double"){E o:List P}(Z:StL B E o) :
  ∃W:List P,W.length≤6144/\(∀z ∈ W,jb B z)/\∀(b i:Nat)(S:aD),Bd B b i S->∃d u,Ph n "flaw_ends" [.ref i,.p (.tup [.tup E,.tup o]),.p (.str w)] S=some (d,u)/\Fr b S u/\l_ S u d W:=by
 obtain⟨n,rfl⟩:=gp (n:=n) (by first|assumption|lia);have how:PyData.strOk w=true:=by rcases hw with rfl|rfl<;>simp
 have hpl:=oV I;have hrl:=Z.hr.1;let f:Nat->Nat->Option D->Option D->Option D->Option D->Option D->Option D->Option D->Option D->Lc:=λi V T U l H F t s e=>[qr i,qt [.tup E,.tup o],qs w,qr V,T,U,l,H,F,t,s,e]
 obtain⟨W,h1,h2,h3⟩:=d9 (q:=GC B) (g:=aK [ak 4,ak 5]) (b:=dn (Ph (n+1)) (Ph n)) (Sp:=fun G S=>Fr G.b G.S0 S) (r:=fun G=>G.r) (Q:=jb B) (c:=3) (M:=10000) (e:=a_ 0 B.PR) (p:=fun G L=>∃T U l H F t s e,L=f G.i G.r T U l H F t s e) (fun x hx=>by
  obtain⟨k,hk,hxe⟩:=nB.mp hx;obtain⟨p,hp,rfl⟩:=eI (s:=B.PR) (i:=k) (v:=x) (by rw[dY hk,hxe]);obtain⟨road,hro,a,c,rfl⟩:=sT (bL hp);obtain⟨hkl,C,R,hkr⟩:=Z.hr.at hp;have A:=I.hr road hro;obtain⟨fb,hfb,ef⟩:=Ia (n:=n+1) (by lia) hw A C;have O:∃kd:Str,ar road (.int 2)=some (.str kd):=by obtain⟨ra,rb,kd,c,d1,d2,_,_,_,_,_,rfl⟩:=A;exact⟨kd,by simp⟩
  obtain⟨kd,O⟩:=O;obtain⟨us,hu1,hu2,eu⟩:=CD (n:=n+1) (by lia) kd R;have hls3:=R.1;have pre:∀(i V:Nat)(l H F t s e:Option D)(S:aD)(g:ES),af (tw (aK [ak 6,ak 7,ak 8]) (vv 5)) (af (am 9 (eV (ac ar (ac ar (vv 1) (vi 1)) (vv 4)))) g) (f i V (qi (k:Int)) (qp (pr road a c)) l H F t s e) S=g (f i V (qi (k:Int)) (qp (pr road a c)) (qp road) (qi (a:Int)) (qi (c:Int)) (qt C) s e) S:=λi V l H F t s e S g=>by
   rw [al (e:=f i V (qi (k:Int)) (qp (pr road a c)) (qp road) (qi (a:Int)) (qi (c:Int)) t s e) (b:=S) rfl,
    al (e:=f i V (qi (k:Int)) (qp (pr road a c)) (qp road) (qi (a:Int)) (qi (c:Int)) (qt C) s e) (b:=S) (by simp[f,bF hkr])]
  cases fb with
  |false=>refine⟨[],by simp,λ_ h=>(by cases h),λG L S J K X m hM=>?_⟩;obtain⟨T,U,l,H,F,t,s,e,rfl⟩:=K;refine⟨f G.i G.r (qi (k:Int)) (qp (pr road a c)) l H F t s e,f G.i G.r (qi (k:Int)) (qp (pr road a c)) (qp road) (qi (a:Int)) (qi (c:Int)) (qt C) s e,S,rfl,?_,⟨_,_,_,_,_,_,_,_,rfl⟩,X,by simpa using m⟩;unfold dn;rw[pre];simp[f,ef]
  |true=>
   obtain⟨W,k1,k2,k3⟩:=d9 (q:=GC B) (g:=ak 10) (b:=eB (Ph (n+1)) (Ph n)) (Sp:=fun G S=>Fr G.b G.S0 S) (r:=fun G=>G.r) (Q:=jb B) (c:=1) (M:=10000) (e:=us) (p:=fun G L=>∃s e,L=f G.i G.r (qi (k:Int)) (qp (pr road a c)) (qp road) (qi (a:Int)) (qi (c:Int)) (qt C) s e) (fun y hy=>by
    obtain⟨sp,hsp,rfl⟩:=hu2 y hy;obtain⟨zs,hz,ez⟩:=Im (n:=n+1) (by lia) hw R (λq=>hfb q rfl) hsp;have er:=nP (n:=n+1) (by lia) (xs:=o) (k:=k) hkl (by lia) (.tup zs);refine⟨[.tup [.tup [.str w,.int (a:Int),.int (c:Int),.int (sp:Int)],.tup [.tup E,.tup (o.set k (.tup zs))]]],by simp,λz hz'=>⟨_,_,by simpa using hz',⟨_,_,_,_,rfl,by simp,λd hd=>?_⟩,E,_,rfl,Z.hl,Z.hh,Z.hr.set k hz⟩,λG L S J K X m hM=>?_⟩
    .simp only[ba,dB,du]at hd;rcases hd with rfl|rfl|rfl|rfl
     .exact⟨by simpa using how,.inl ⟨_,rfl,by rcases hw with rfl|rfl<;>decide +kernel⟩⟩
     all_goals exact⟨by simp,.inr (.inl ⟨_,rfl⟩)⟩
    .obtain⟨s,e,rfl⟩:=K;refine⟨f G.i G.r (qi (k:Int)) (qp (pr road a c)) (qp road) (qi (a:Int)) (qi (c:Int)) (qt C) (qi (sp:Int)) e,f G.i G.r (qi (k:Int)) (qp (pr road a c)) (qp road) (qi (a:Int)) (qi (c:Int)) (qt C) (qi (sp:Int)) (qt (o.set k (.tup zs))),_,rfl,?_,⟨_,_,rfl⟩,X.set G.le G.hr _,il m⟩;unfold eB;refine(al (e:=f G.i G.r (qi (k:Int)) (qp (pr road a c)) (qp road) (qi (a:Int)) (qi (c:Int)) (qt C) (qi (sp:Int)) (qt (o.set k (.tup zs)))) (b:=S) (by simp[f,ez,er])).trans (i' rfl m ?_ m (by lia));simp[f])
   refine⟨W,by lia,k2,λG L S J K X m hM=>?_⟩;obtain⟨T,U,l,H,F,t,s,e,rfl⟩:=K;obtain⟨L',u,e3,⟨q10',q11',rfl⟩,N,h5⟩:=k3 G _ S J ⟨s,e,rfl⟩ X m (by lia);refine⟨f G.i G.r (qi (k:Int)) (qp (pr road a c)) l H F t s e,f G.i G.r (qi (k:Int)) (qp (pr road a c)) (qp road) (qi (a:Int)) (qi (c:Int)) (qt C) q10' q11',u,rfl,?_,⟨_,_,_,_,_,_,_,_,rfl⟩,N,h5⟩;unfold dn;rw[pre];simp only[f]at e3;simp[f,ef,O,eu,e3])
 rw[dM]at h1 h3;refine⟨W,by lia,h2,λb i S hB=>?_⟩;have Y:=Fr.app b S [.lst []];obtain⟨jh,jp,jl,jm,mk,mv,h⟩:=hB.fr Y;have frB:=Y.trans (Fr.frz h.bp h.pr);have hb:=hB.le;have hjp:=h.bp;obtain⟨L',u,e3,⟨T,U,l,H,F,t,s,e,rfl⟩,N,h5⟩:=h3 ⟨b,i,S,S.length,hB,Nat.le_refl _⟩ (f i S.length none none none none none none none none) ((S++[SO.lst []]).set jp (.fz (.lst B.PR))) [] ⟨none,none,none,none,none,none,none,none,rfl⟩ frB (by rw[aX (by lia)];exact gK _ _) (by simp;lia);refine⟨.ref S.length,u,?_,N,.inr ⟨S.length,Nat.le_refl _,rfl,.inl h5⟩⟩;rw[fW];show(match cS _ _ [qr i,qt [.tup E,.tup o],qs w,none,none,none,none,none,none,none,none,none] S with|some (.rt d,_,u)=>some (d,u)|some (.nx,_,u)=>some (.p .non,u)|_=>none)=_;unfold cS;rw[al (e:=f i S.length none none none none none none none none) (b:=S++[.lst []]) rfl];rw[al (e:=f i S.length T U l H F t s e) (b:=u) (by rw[bX,vA,ka,h.pairs rfl,av,h.pr.frz];exact e3)];rfl
theorem Io(I:Pln B.fams B.roads B.wishes)(Y:Places B)(j:14≤n)(hS:StL B E o) :
  ∃y:List P,y.length≤40000/\(∀z ∈ y,jb B z)/\∀(b i:Nat)(S:aD),Bd B b i S->∃d p,Ph n "ends_on" [.ref i,.p (.tup [.tup E,.tup o])] S=some (d,p)/\Fr b S p/\l_ S p d y:=by
 obtain⟨n,rfl⟩:=gp (n:=n) (by first|assumption|lia);have h4:=gM I;have hhl:=lP (f:=B.fams);obtain⟨O,la1,la2,ela⟩:=C1 I (n:=n+1) (by lia) (.inl rfl) hS;obtain⟨da,da1,V,Z⟩:=C1 I (n:=n+1) (by lia) (.inr rfl) hS;let a:Nat->Nat->Option D->Lc:=λi r' q=>[qr i,qt [.tup E,.tup o],qr r',q]
 obtain⟨y,h1,h2,h3⟩:=d9 (q:=GC B) (g:=ak 3) (b:=g6 (Ph (n+1)) (Ph n)) (Sp:=λG S=>Fr G.b G.S0 S) (r:=λG=>G.r) (Q:=jb B) (c:=6144) (M:=100000) (e:=intsFrom 0 (homes B.fams).length) (p:=λG L=>∃q,L=a G.i G.r q) (λx hx=>by obtain⟨k,rfl,hk⟩:=f6 hx;simp only[eD];have T:(aA B.fams)[k]? = some ((aA B.fams)[k]'(by lia)):=dY (by lia);obtain⟨es,m1,m2,m3⟩:=Ib I Y (n:=n+1) (by lia) T hS;refine⟨es,m1,m2,λG L S acc hLp fr H hM=>?_⟩;obtain⟨q,rfl⟩:=hLp;obtain⟨d,N,W,f,an⟩:=m3 G.b G.i S (G.bd.fr fr);obtain⟨S2,X,e⟩:=oR (b:=G.b) (g:=Ph (n+1) "hand_ends") (u:=ae (aa 0) (ae (aa 1) (ae (aa 3) aV))) (L:=a G.i G.r (qi (k:Int))) (S:=S) (l:=[.ref G.i,.p (.tup [.tup E,.tup o]),.p (.int (k:Int))]) rfl W f (aU G.le fr.len) an;have F:=e.hi _ _ (aU G.le G.hr) H;exact⟨a G.i G.r (qi (k:Int)),_,_,rfl,k7 rfl H X F (by lia),⟨_,rfl⟩,(fr.trans e).set G.le G.hr _,il F⟩)
 rw[br]at h1 h3;refine⟨y++O++da,by rw[b_,b_];lia,λz s=>?_,λb i S u=>?_⟩
 .rcases dA.mp s with s|s
  .rcases dA.mp s with s|s
   .exact h2 z s
   .exact la2 z s
  .exact V z s
 .have A:=Fr.app b S [.lst []];have w:=u.le;obtain⟨L',N,W,⟨q,rfl⟩,f,K⟩:=h3 ⟨b,i,S,S.length,u,Nat.le_refl _⟩ (a i S.length none) (S++[.lst []]) [] ⟨none,rfl⟩ A (gK _ _) (by simp;lia);obtain⟨d2,T2,f2,e,R⟩:=ela b i N (u.fr f);obtain⟨S2,X,m⟩:=oR (b:=b) (g:=Ph (n+1) "flaw_ends") (u:=ae (aa 0) (ae (aa 1) (ae (eV (vt "lose")) aV))) (L:=a i S.length q) (S:=N) (l:=[.ref i,.p (.tup [.tup E,.tup o]),.p (.str "lose")]) rfl f2 e (aU w f.len) R;have C:=m.hi _ _ w K;have v:Fr b S (S2.set S.length (.lst (([]++y++O).map .p))):=(f.trans m).set w (Nat.le_refl _) _;have l:=il (a:=.lst (([]++y++O).map .p)) C;obtain⟨d3,T3,f3,fr3,U⟩:=Z b i _ (u.fr v);obtain⟨S3,e3,t⟩:=oR (b:=b) (g:=Ph (n+1) "flaw_ends") (u:=ae (aa 0) (ae (aa 1) (ae (eV (vt "double")) aV))) (L:=a i S.length q) (l:=[.ref i,.p (.tup [.tup E,.tup o]),.p (.str "double")]) rfl f3 fr3 (aU w v.len) U;have J:=t.hi _ _ w l;refine⟨.ref S.length,S3.set S.length (.lst (([]++y++O++da).map .p)),?_,(v.trans t).set w (Nat.le_refl _) _,.inr ⟨S.length,Nat.le_refl _,rfl,.inl (by rw[il J];simp)⟩⟩;obtain⟨jh,jp,jl,jm,mk,mv,h⟩:=u.fr A;have hq:(homes B.fams).length < 1000000:=by lia
  rw[hV];show(match d8 _ _ [qr i,qt [.tup E,.tup o],none,none] S with|some (.rt d,_,p)=>some (d,p)|some (.nx,_,p)=>some (.p .non,p)|_=>none)=_;unfold d8;rw[al (e:=a i S.length none) (b:=S++[.lst []]) rfl];rw[al (e:=a i S.length q) (b:=N) (by rw[bX,show io (eH (d6 (aT Att) (aa 0) "homes")) (a i S.length none) (S++[.lst []])=some (intsFrom 0 (homes B.fams).length,S++[.lst []]) by rw[wS,Bb,h.homes rfl];simp[h.ho.len,hq]];exact W)]
  rw[al (k7 rfl K X C (by simp;lia))];rw[al (k7 rfl l e3 J (by simp;lia))];rfl
end My
namespace My
open PySem L2 Ev
theorem j4[DecidableEq w](x:w)(y:D):∀(s:List w)(l:List D),s.Nodup->s.length=l.length->(cU x y s l).1.Nodup/\(cU x y s l).1.length=(cU x y s l).2.length/\(cU x y s l).1.length≤s.length+1/\(∀k ∈ (cU x y s l).1,k=x\/k ∈ s)/\∀k,bQ k (cU x y s l).1 (cU x y s l).2=if x=k then some y else bQ k s l
 | [],[],_,_=>⟨by simp[cU],rfl,by simp[cU],λk h=>.inl (by simpa[cU] using h),λk=>by by_cases q:x=k<;>simp[cU,bQ,q]⟩
 | [],_::_,_,h=>by simp at h
 |_::_,[],_,h=>by simp at h
 |a::s,v::l,f,m=>by
  obtain⟨c,f⟩:=List.nodup_cons.mp f;by_cases q:a=x
  .have e:cU x y (a::s) (v::l)=(a::s,y::l):=by simp[cU,q]
   rw[e];refine⟨List.nodup_cons.mpr ⟨c,f⟩,by simpa using m,by simp,λk h=>.inr h,λk=>?_⟩;subst q;by_cases n:a=k<;>simp[bQ,n]
  .obtain⟨t,p,u,b,d⟩:=j4 x y s l f (by simpa using m);have e:cU x y (a::s) (v::l)=(a::(cU x y s l).1,v::(cU x y s l).2):=by simp[cU,q]
   rw[e];refine⟨List.nodup_cons.mpr ⟨λz=>?_,t⟩,by simp[p],by simp;lia,λk h=>?_,λk=>?_⟩
   .rcases b a z with z|z
    .exact q z
    .exact c z
   .rcases ba.mp h with rfl|h
    .exact .inr List.mem_cons_self
    .rcases b k h with h|h
     .exact .inl h
     .exact .inr (a6 _ h)
   .show (if a=k then some v else bQ k (cU x y s l).1 (cU x y s l).2)=_;by_cases n:a=k
    .subst n;have:¬x=a:=λz=>q z.symm
     simp[bQ,this]
    .rw [if_neg n,d];by_cases r:x=k
     .simp [r]
     .simp [r,bQ,n]
noncomputable def o7:P->List bz
 | .tup [_,.int a,.int b]=>[.inl a,.inl b]
 |_=>[]
noncomputable abbrev KV:=List (List bz)×List D
def putAll:Nat->List P->KV->KV
 |_,[],s=>s
 |k,p::r,s=>putAll (k+1) r (cU (o7 p) (.p (.int (k:Int))) s.1 s.2)
structure KVok(s:KV):Prop where
 nd:s.1.Nodup
 ln:s.1.length=s.2.length
theorem KVok.put(h:KVok s)(k:List bz)(y:D):KVok (cU k y s.1 s.2):=by obtain⟨x,a,_⟩:=j4 k y s.1 s.2 h.nd h.ln;exact⟨x,a⟩
theorem CN:∀(ps:List P)(k:Nat)(s:KV),KVok s->∀y d,bQ y (putAll k ps s).1 (putAll k ps s).2=some d->bQ y s.1 s.2=some d\/∃(j:Nat)(p:P),ps[j]? = some p/\d=.p (.int ((k+j:Nat):Int))
 | [],k,s,h,y,d,e=>.inl e
 |p::r,k,s,h,y,d,e=>by
  rcases CN r (k+1) _ (h.put (o7 p) (.p (.int (k:Int)))) y d e with e|⟨j,n,x,a⟩
  .rw [(j4 (o7 p) (.p (.int (k:Int))) s.1 s.2 h.nd h.ln).2.2.2.2]at e;split at e
   .cases e;exact .inr ⟨0,p,rfl,rfl⟩
   .exact .inl e
  .exact .inr ⟨j+1,n,by simpa using x,by rw[a,show k+1+j=k+(j+1) by lia]⟩
theorem zB:∀(ps:List P)(k:Nat)(s:KV),KVok s->∀y,((∃d,bQ y s.1 s.2=some d)\/∃p ∈ ps,o7 p=y)->∃d,bQ y (putAll k ps s).1 (putAll k ps s).2=some d
 | [],k,s,h,y,q=>by
  rcases q with q|⟨_,z,_⟩
  .exact q
  .cases z
 |p::r,k,s,h,y,q=>by
  refine zB r (k+1) _ (h.put (o7 p) (.p (.int (k:Int)))) y ?_;have e:=(j4 (o7 p) (.p (.int (k:Int))) s.1 s.2 h.nd h.ln).2.2.2.2 y;by_cases w:o7 p=y
  .exact .inl ⟨_,by rw[e,if_pos w]⟩
  .rcases q with ⟨d,q⟩|⟨x,z,q⟩
   .exact .inl ⟨d,by rw[e,if_neg w];exact q⟩
   .rcases ba.mp z with rfl|z
    .exact absurd q w
    .exact .inr ⟨x,z,q⟩
def xN(m r w:List P):BD:=⟨m,r,w,(putAll 0 (cv (az m) r) ([],[])).1,(putAll 0 (cv (az m) r) ([],[])).2⟩
theorem K3:KVok ([],[]):=⟨by simp,rfl⟩
theorem xM(m o w:List P):Places (xN m o w) where
 get:=λr a b h=>zB _ 0 _ K3 _ (.inr ⟨_,h,rfl⟩)
 ok:=λx y d h=>by
  rcases CN _ 0 _ K3 _ d h with e|⟨j,p,s,n⟩
  .cases e
  .obtain⟨r,k,a,b,rfl⟩:=sT (B:=xN m o w) (bL s);exact⟨j,r,a,b,k,by rw[n,fq],s⟩
@[simp] theorem M':¬("families":Str)="homes"/\¬("families":Str)="pairs"/\¬("families":Str)="places"/\¬("families":Str)="members"/\¬("homes":Str)="pairs"/\¬("homes":Str)="places"/\¬("homes":Str)="members"/\¬("pairs":Str)="places"/\¬("pairs":Str)="members"/\¬("places":Str)="members":=by decide +kernel
theorem C9{ψ ι:Str->GF}(l:P)(a b c:D)(o u:SO):∀(ps:List P)(k:Nat)(s:KV),KVok s->s.1.length+ps.length≤900000->(∀p ∈ ps,∃r x y,p=.tup [r,.int x,.int y])->∀f m:Option D,∃q n,
  aR (aK [ak 2,ak 3]) (fH ψ ι) (a_ (k:Int) ps) [qr 0,qp l,f,m,none] [.ins "Board" ["families","homes","pairs","places"] [a,b,c,.ref 3],o,u,.dtt s.1 s.2]=some (.nx,[qr 0,qp l,q,n,none],[.ins "Board" ["families","homes","pairs","places"] [a,b,c,.ref 3],o,u,.dtt (putAll k ps s).1 (putAll k ps s).2])
 | [],k,s,_,_,_,f,m=>⟨f,m,rfl⟩
 |p::r,k,s,h,i,g,f,m=>by
  simp only[bt]at i;obtain⟨d,x,y,rfl⟩:=g p List.mem_cons_self;have j:=(j4 (o7 (.tup [d,.int x,.int y])) (.p (.int (k:Int))) s.1 s.2 h.nd h.ln).2.2.1;obtain⟨q,n,e⟩:=C9 (ψ:=ψ) (ι:=ι) l a b c o u r (k+1) _ (h.put (o7 (.tup [d,.int x,.int y])) (.p (.int (k:Int)))) (by lia) (λp v=>g p (a6 _ v)) (qi (k:Int)) (qt [d,.int x,.int y]);refine⟨q,n,?_⟩;unfold a_ putAll;rw[iB]at e;refine(bR (s:=[qr 0,qp l,qi (k:Int),qt [d,.int x,.int y],none]) rfl ?_).trans e;have t:=h.nd;have w:s.1.length≤1000000:=by lia
  simp[fH,j8,gR,iX,cw,cj,t,w,o7]
theorem wU:∀{k:List bz}{l:List D},bQ r k l=bG r k l
 | [],_=>by cases ‹List D›<;>rfl
 |_::_,[]=>rfl
 |h::k,v::l=>by
  show(if h=r then some v else bQ r k l)=if h=r then some v else bG r k l
  rw[wU]
theorem Cc{n:Nat}(w:2≤n){m:List P}{S:aD}{a e s:D}(x:S[0]? = some (.ins "Board" fields [.p (.lst m),.ref 1,a,e,s]))(q:S[1]? = some (.lst ((homes m).map .p))){k:Nat}{f:P}(v:(aA m)[k]? = some f):Ph n "Board.family_of" [.ref 0,.p (.int (k:Int))] S=some (.p f,S):=by
 obtain⟨n,rfl⟩:=gp (n:=n) (by first|assumption|lia);obtain⟨p,b,c⟩:=qa v;have r:mK (d6 (aT Att) (aa 0) "homes") (vv 1) [qr 0,qi (k:Int)] S=some (.p (.int (p:Int)),S):=jX.ix (j:=1) (.inl q) (by simp[x,j8,BX]) rfl (bF b);have t:d6 (aT Att) (aa 0) "families" [qr 0,qi (k:Int)] S=some (.p (.lst m),S):=by simp[x,j8,BX]
 rw[cd];show(match aI _ [qr 0,qi (k:Int)] S with|some (.rt d,_,h)=>some (d,h)|some (.nx,_,h)=>some (.p .non,h)|_=>none)=_;rw[ri,jR,t,av,ka,r];simp[bF c]
noncomputable def hX(N:LS)(t:Nat)(s:Str):List Nat:=(List.range t).filter λi=>decide (N[i]? = some s)
theorem i5(N:LS)(t:Nat)(s:Str):hX N (t+1) s=if N[t]? = some s then hX N t s++[t] else hX N t s:=by
 unfold hX;rw[List.range_succ,List.filter_append];by_cases h:N[t]? = some s
 .rw [if_pos h,uS (by simpa using h)];rfl
 .rw [if_neg h,uR (by simpa using h)];simp
theorem vV(a:t≤N.length)(h:s ∉ N.take t):hX N t s=[]:=by
 unfold hX;refine List.filter_eq_nil_iff.mpr λi x q=>h ?_
 have x:i < t:=mY.mp x;have e:=aS q;rw[<- iP x]at e;exact bL e
structure MI(fams:List P)(o2 o3:SO)(t:Nat)(mk:List bz)(mv:List D)(S:aD):Prop where
 h0:S[0]? = some (.ins "Board" fields [.p (.lst fams),.ref 1,.ref 2,.ref 3,.ref 4])
 h1:S[1]? = some (.lst ((homes fams).map .p))
 h2:S[2]? = some o2
 h3:S[3]? = some o3
 h4:S[4]? = some (.dct mk mv)
 nd:mk.Nodup
 ln:mk.length=mv.length
 le:mk.length≤t
 yes:∀s ∈ (az fams).take t,∃j,bQ (.inr s) mk mv=qr j/\5≤j/\S[j]? = some (.lst ((cG (hX (az fams) t s)).map .p))
 no:∀s,s ∉ (az fams).take t->bQ (.inr s) mk mv=none
 inj:∀s s' j,bQ (.inr s) mk mv=qr j->bQ (.inr s') mk mv=qr j->s=s'
variable{m:List P}{n:Nat}
theorem BS(h:MI m o2 o3 t mk r S)(hn:2≤n)(ht:t≤100)(L:∀f ∈ m,fg rs f)(J:(aA m)[t]? = some f)(l:P)(v d:Option D) :
  ∃R U X,MI m o2 o3 (t+1) R U X/\bZ (Ph n) (Ph (n-1)) [qr 0,qp l,v,d,qi (t:Int)] S=some (.nx,[qr 0,qp l,v,d,qi (t:Int)],X):=by
 have N:(az m)[t]? = some (a9 f):=by unfold az;rw[List.getElem?_map,J];rfl
 have htl:t < (az m).length:=aW N;have ef:=Cc hn h.h0 h.h1 J;have em:dS (mT Tb (Ph n)) (aa 0) "family_of" (ae (aa 4) aV) [qr 0,qp l,v,d,qi (t:Int)] S=some (.p f,S):=by rw[iA];show aG (some (D.ref 0,S)) _=_;rw[av];simp only[h.h0,Jq,Jt];exact ef
 have Z:(ac ar (vE (dS (mT Tb (Ph n)) (aa 0) "family_of" (ae (aa 4) aV))) (vi 0)) [qr 0,qp l,v,d,qi (t:Int)] S=some (.str (a9 f),S):=by obtain⟨nm,c,V,I,whos,W,_,rfl⟩:=jM L (bL J);rw[u3,ka,em];simp[a9]
 have eo:d6 (aT Att) (aa 0) "members" [qr 0,qp l,v,d,qi (t:Int)] S=some (.ref 4,S):=by simp[h.h0,j8,BX]
 have l5:4 < S.length:=aW h.h4;have E:(az m).take (t+1)=(az m).take t++[a9 f]:=by rw[List.take_add_one,N];rfl
 have p:∀k,k < S.length->(S++[SO.lst []])[k]? = S[k]?:=λk B=>List.getElem?_append_left B;have u:jE (.ref 4) S=some (4,mk,r):=by simp[jE,h.h4]
 have o:jE (.ref 4) (S++[.lst []])=some (4,mk,r):=by simp[jE,p 4 l5,h.h4]
 have A:(mk.Nodup/\few mk=true):=⟨h.nd,by rw[oB];have:=h.le;lia⟩;by_cases Q:a9 f ∈ (az m).take t
 .obtain⟨j,F,hj,Y⟩:=h.yes _ Q;have M:j < S.length:=aW Y;have K:(S++[SO.lst []])[j]? = some (.lst ((cG (hX (az m) t (a9 f))).map .p)):=by rw[p j M];exact Y
  have C:(cG (hX (az m) t (a9 f))).length≤1000000:=by have:=kz (λi=>decide ((az m)[i]? = some (a9 f))) (List.range t);simp[cG,hX];simp at this;lia
  refine⟨mk,r,(S++[SO.lst []]).set j (.lst ((cG (hX (az m) (t+1) (a9 f))).map .p)),?_,?_⟩
  .have e:∀k,k < S.length->k≠j->((S++[SO.lst []]).set j (.lst ((cG (hX (az m) (t+1) (a9 f))).map .p)))[k]? = S[k]?:=λk B q=>by rw[aX (λz=>q z.symm),p k B]
   refine⟨by rw[e 0 (by lia) (by lia)];exact h.h0,by rw[e 1 (by lia) (by lia)];exact h.h1,by rw[e 2 (by lia) (by lia)];exact h.h2,by rw[e 3 (by lia) (by lia)];exact h.h3,by rw[e 4 (by lia) (by lia)];exact h.h4,h.nd,h.ln,by have:=h.le;lia,λs x=>?_,λs x=>?_,h.inj⟩
   .by_cases q:s=a9 f
    .subst q;exact⟨j,F,hj,by rw[dX (by simp;lia)]⟩
    .have g:s ∈ (az m).take t:=by
      rw[E]at x;rcases dA.mp x with z|z
      .exact z
      .exact absurd (iO.mp z) q
     obtain⟨y,a,b,H⟩:=h.yes s g;have O:y≠j:=λz=>q (h.inj s (a9 f) j (z ▸ a) F);refine⟨y,a,b,?_⟩;rw[e y (aW H) O,i5,if_neg λz=>q (by rw[N]at z;cases z;rfl)];exact H
   .exact h.no s λz=>x (by rw[E];exact ky _ z)
  .unfold bZ;rw[kT,kH,oF,eo,av];simp only[u,Z,av];rw[show cD aN [some (D.ref 0),qp l,v,d,qi (t:Int)] S=some (.ref S.length,S++[.lst []]) by simp];simp only[av,o,cj,if_pos A,F,dD,K];rw[show aa 4 [some (D.ref 0),qp l,v,d,qi (t:Int)] (S++[SO.lst []])=some (.p (.int (t:Int)),S++[.lst []]) from rfl,av];simp only[K];rw[if_pos (by rw[oB,a7];exact C),i5,if_pos N];simp[cG]
 .have F:=h.no _ Q;obtain⟨g1,g2,g3,g4,G⟩:=j4 (.inr (a9 f):bz) (.ref S.length) mk r h.nd h.ln;have c0:hX (az m) t (a9 f)=[]:=vV (by lia) Q;refine⟨(cU (Sum.inr (a9 f):bz) (.ref S.length) mk r).1,(cU (Sum.inr (a9 f):bz) (.ref S.length) mk r).2,((S++[SO.lst []]).set 4 (SO.dct (cU (Sum.inr (a9 f):bz) (.ref S.length) mk r).1 (cU (Sum.inr (a9 f):bz) (.ref S.length) mk r).2)).set S.length (.lst [.p (.int (t:Int))]),?_,?_⟩
  .have e:∀k,k < S.length->k≠4->(((S++[SO.lst []]).set 4 (.dct (cU (.inr (a9 f)) (.ref S.length) mk r).1 (cU (.inr (a9 f)) (.ref S.length) mk r).2)).set S.length (.lst [.p (.int (t:Int))]))[k]? = S[k]?:=λk B q=>by rw[aX (by lia),aX (λz=>q z.symm),p k B]
   refine⟨by rw[e 0 (by lia) (by lia)];exact h.h0,by rw[e 1 (by lia) (by lia)];exact h.h1,by rw[e 2 (by lia) (by lia)];exact h.h2,by rw[e 3 (by lia) (by lia)];exact h.h3,by rw[aX (by lia),dX (by simp;lia)],g1,g2,by have:=h.le;lia,λs x=>?_,λs x=>?_,λs s' j a b=>?_⟩
   .by_cases q:s=a9 f
    .subst q;refine⟨S.length,by rw[G,if_pos rfl],by lia,?_⟩;rw[dX (by simp),i5,if_pos N,c0];rfl
    .have g:s ∈ (az m).take t:=by
      rw[E]at x;rcases dA.mp x with z|z
      .exact z
      .exact absurd (iO.mp z) q
     obtain⟨y,a,b,H⟩:=h.yes s g;refine⟨y,by rw[G,if_neg λz=>q (jr z).symm];exact a,b,?_⟩;rw[e y (aW H) (by lia),i5,if_neg λz=>q (by rw[N]at z;cases z;rfl)];exact H
   .rw [G,if_neg λz=>x (by rw[E,<- jr z];simp)];exact h.no s λz=>x (by rw[E];exact ky _ z)
   .have low:∀s j,bQ (.inr s) mk r=qr j->j < S.length:=λs j q=>by
     by_cases w:s ∈ (az m).take t
     .obtain⟨y,a,_,H⟩:=h.yes s w;rw[q]at a;cases a;exact aW H
     .rw [h.no s w]at q;cases q
    rw[G]at a b;split at a
    .rename_i z1;cases a;split at b
     .rename_i z2;exact(jr z1).symm.trans (jr z2)
     .exact absurd (low _ _ b) (by lia)
    .split at b
     .cases b;exact absurd (low _ _ a) (by lia)
     .exact h.inj s s' j a b
  .have l1:((S++[SO.lst []]).set 4 (.dct (cU (.inr (a9 f)) (.ref S.length) mk r).1 (cU (.inr (a9 f)) (.ref S.length) mk r).2))[S.length]? = some (.lst []):=by
    rw[aX (by lia)];exact gK _ _
   unfold bZ;rw[kT,kH,oF,eo,av];simp only[u,Z,av];rw[show cD aN [some (D.ref 0),qp l,v,d,qi (t:Int)] S=some (.ref S.length,S++[.lst []]) by simp];simp only[av,o,cj,if_pos A,F,dD,l1];rw[show ∀T:aD,aa 4 [some (D.ref 0),qp l,v,d,qi (t:Int)] T=some (.p (.int (t:Int)),T) from λ_=>rfl,av];simp only[l1];rfl
theorem BU(y:2≤n)(r:∀f ∈ m,fg E f)(H:(aA m).length≤100)(p:P)(s c:Option D)(h:MI m j C 0 [] [] S) :
  ∃mk a x q,MI m j C (aA m).length mk a x/\aR (ak 4) (bZ (Ph n) (Ph (n-1))) (intsFrom 0 (aA m).length) [qr 0,qp p,s,c,none] S=some (.nx,[qr 0,qp p,s,c,q],x):=by
 obtain⟨o,x,e,mk,a,q,I,rfl⟩:=bf (g:=ak 4) (b:=bZ (Ph n) (Ph (n-1))) (Inv:=λt L S=>∃mk a q,MI m j C t mk a S/\L=[qr 0,qp p,s,c,q]) (s:=intsFrom 0 (aA m).length) (k:=0) (L:=[qr 0,qp p,s,c,none]) (S:=S) (λi v L S z I=>by obtain⟨rfl,l⟩:=ints_get z;obtain⟨mk,a,q,I,rfl⟩:=I;simp only[eD];rw[fq]at I ⊢;obtain⟨d,w,x,u,e⟩:=BS I y (by lia) r (dY l) p s c;exact⟨_,_,x,rfl,e,d,w,_,u,rfl⟩) ⟨[],[],none,h,rfl⟩
 rw[br,fq]at I;exact⟨mk,a,x,q,I,e⟩
theorem uI(x:Pln m q w)(J:4≤n):∃S,Ph n "Board.__init__" [.ref 0,.p (.tup [.lst m,.lst q,.lst w])] [.ins "Board" [] []]=some (.p .non,S)/\Bd (xN m q w) S.length 0 S:=by
 obtain⟨n,rfl⟩:=gp (n:=n) (by first|assumption|lia);let l:P:=.tup [.lst m,.lst q,.lst w]
 let R:=cv (az m) q
 have F:R.length≤2048:=oV (B:=xN m q w) x;have G:=gM x;have v:=lP (f:=m);obtain⟨e,f,c⟩:=C9 (ψ:=Ph (n+1)) (ι:=Ph n) l (.p (.lst m)) (.ref 1) (.ref 2) (.lst ((homes m).map .p)) (.fz (.lst R)) R 0 ([],[]) K3 (by simp;lia) (λp H=>by obtain⟨r,_,a,b,rfl⟩:=sT (B:=xN m q w) H;exact⟨r,a,b,rfl⟩) none none
 rw[show((0:Nat):Int)=0 from rfl]at c;generalize u:putAll 0 R ([],[])=k at c;have I:MI m (.fz (.lst R)) (.dtt k.1 k.2) 0 [] [] [.ins "Board" fields [.p (.lst m),.ref 1,.ref 2,.ref 3,.ref 4],.lst ((homes m).map .p),.fz (.lst R),.dtt k.1 k.2,.dct [] []]:=
  ⟨rfl,rfl,rfl,rfl,rfl,by simp,rfl,by simp,λs h=>(by simp at h),λs _=>rfl,λs s' j h=>(by cases h)⟩
 obtain⟨mk,y,S,L,M,g⟩:=BU (n:=n+1) (by lia) x.hf (by lia) l e f I;have t:Bat (xN m q w) S.length 0 1 2 3 4 mk y S:=by
  refine⟨M.h0,.inl M.h1,.inr M.h2,?_,M.h4,λs A=>?_,aW M.h0,aW M.h1,aW M.h2,aW M.h3,aW M.h4,Nat.le_refl _⟩
  .have:=M.h3;rw[<- u]at this;exact this
  .have N:(az m).length=(aA m).length:=by simp[az]
   obtain⟨j,C,_,i⟩:=M.yes s (by rw[<- N,qB];exact A);refine⟨j,aW i,by rw[<- wU];exact C,.inl ?_⟩;have:hX (az m) (aA m).length s=ce (xN m q w).N s:=by rw[<- N];rfl
   rw[<- this];exact i
 refine⟨S,?_,1,2,3,4,mk,y,t⟩;have z:=C3 (n:=n+1) (by lia) x.hf x.f0.2 (.lst q) (.lst w);have o:=Hd (n:=n+1) (by lia) x;rw[oD];show(match g7 _ _ [qr 0,qp l,none,none,none] [.ins "Board" [] []] with|some (.rt d,_,S)=>some (d,S)|some (.nx,_,S)=>some (.p .non,S)|_=>none)=_;unfold g7;rw[al (e:=[qr 0,qp l,none,none,none]) (b:=[.ins "Board" ["families"] [.p (.lst m)]]) (by simp[l,j8,Ev.putK,Ev.nS])];rw[al (e:=[qr 0,qp l,none,none,none]) (b:=[.ins "Board" ["families","homes"] [.p (.lst m),.ref 1],.lst ((homes m).map .p)]) (by simp[l,j8,Ev.putK,Ev.nS,z])];rw[al (e:=[qr 0,qp l,none,none,none]) (b:=[.ins "Board" ["families","homes","pairs"] [.p (.lst m),.ref 1,.ref 2],.lst ((homes m).map .p),.lst (R.map .p)]) (by simp[l,j8,Ev.putK,Ev.nS,o,R])];rw[al (e:=[qr 0,qp l,none,none,none]) (b:=[.ins "Board" ["families","homes","pairs","places"] [.p (.lst m),.ref 1,.ref 2,.ref 3],.lst ((homes m).map .p),.lst (R.map .p),.dtt [] []]) (by simp[j8,Ev.putK,Ev.nS])];have E:toP 9 (.ref 2) [.ins "Board" ["families","homes","pairs","places"] [.p (.lst m),.ref 1,.ref 2,.ref 3],.lst ((homes m).map .p),.lst (R.map .p),.dtt [] []]=some (.lst R,[.ins "Board" ["families","homes","pairs","places"] [.p (.lst m),.ref 1,.ref 2,.ref 3],.lst ((homes m).map .p),.fz (.lst R),.dtt [] []]):=dP rfl;rw[al (e:=[qr 0,qp l,e,f,none]) (b:=[.ins "Board" ["families","homes","pairs","places"] [.p (.lst m),.ref 1,.ref 2,.ref 3],.lst ((homes m).map .p),.fz (.lst R),.dtt k.1 k.2]) (by rw[bX,vA,ka];rw[show d6 (aT Att) (aa 0) "pairs" [some (D.ref 0),qp l,none,none,none] [SO.ins "Board" ["families","homes","pairs","places"] [.p (.lst m),.ref 1,.ref 2,.ref 3],.lst ((homes m).map .p),.lst (R.map .p),.dtt [] []]=some (.ref 2,[SO.ins "Board" ["families","homes","pairs","places"] [.p (.lst m),.ref 1,.ref 2,.ref 3],.lst ((homes m).map .p),.lst (R.map .p),.dtt [] []]) by simp[j8,gR],av,E];exact c)]
 rw[al (e:=[qr 0,qp l,e,f,none]) (b:=[.ins "Board" fields [.p (.lst m),.ref 1,.ref 2,.ref 3,.ref 4],.lst ((homes m).map .p),.fz (.lst R),.dtt k.1 k.2,.dct [] []]) (by simp[j8,Ev.putK,Ev.nS,mu,fields])];have K:(homes m).length < 1000000:=by lia
 rw[bX,show io (eH (d6 (aT Att) (aa 0) "homes")) [some (D.ref 0),qp l,e,f,none] [SO.ins "Board" fields [.p (.lst m),.ref 1,.ref 2,.ref 3,.ref 4],.lst ((homes m).map .p),.fz (.lst R),.dtt k.1 k.2,.dct [] []]=some (intsFrom 0 (homes m).length,[SO.ins "Board" fields [.p (.lst m),.ref 1,.ref 2,.ref 3,.ref 4],.lst ((homes m).map .p),.fz (.lst R),.dtt k.1 k.2,.dct [] []]) by simp[j8,BX,cB,K],av,v];simp only[jy]at g;rw[g]
def LE(f g:q->aD->Option w):Prop:=∀L S r,f L S=some r->g L S=some r
theorem dO:LE f f:=λ_ _ _ h=>h
theorem aQ(v:∀a,x=some a->j=some a)(k:∀a S r,q a S=some r->w a S=some r)(h:aG x q=some r):aG j w=some r:=by obtain⟨a,S,e,h⟩:=ai h;rw[v _ e,av];exact k _ _ _ h
section
variable{f e:EE}{a i b z:EV}{c H d A:EB}{s s' t B:ES}{l p:gC}{y u:l8}{g k:GF}
theorem Ey(h:LE s s')(k:LE t B):LE (af s t) (af s' B):=λL S r q=>by
 rw[m9]at q ⊢;cases e:s L S with
 |none=>rw[e]at q;cases q
 |some z=>obtain⟨f,x,a⟩:=z;rw[e]at q;rw[h _ _ _ e];cases f<;>first|exact k _ _ _ q|exact q
theorem le_if(x:LE c H)(h:LE s s')(k:LE t B):LE (dW c s t) (dW H s' B):=λL S r q=>aQ (x L S) (λw a r q=>by cases w<;>first|exact k _ _ _ q|exact h _ _ _ q) q
theorem Ew(h:LE f e):LE (am w f) (am w e):=λL S r q=>aQ (h L S) (λ_ _ _ q=>q) q
theorem Ez(h:LE f e):LE (aI f) (aI e):=λL S r q=>aQ (h L S) (λ_ _ _ q=>q) q
theorem B1(h:LE f e):LE (bN f) (bN e):=λL S r q=>aQ (h L S) (λ_ _ _ q=>q) q
theorem tT{g:jf}(h:LE s s'):∀(a:List P)(L:Lc)(S:aD)(r:Fl×Lc×aD),aR g s a L S=some r->aR g s' a L S=some r
 | [],_,_,_,q=>q
 |x::a,L,S,r,q=>by
  simp only[aR]at q ⊢;cases e:g x L with
  |none=>rw[e]at q;cases q
  |some k=>
   rw[e]at q;simp only at q ⊢;cases n:s k S with
   |none=>rw[n]at q;cases q
   |some z=>obtain⟨l,L2,f⟩:=z;rw[n]at q;rw[h _ _ _ n];cases l<;>first|exact tT h a L2 f r q|exact q
theorem EF{g:jf}(h:LE l p)(k:LE s s'):LE (cb l g s) (cb p g s'):=λL S r q=>aQ (h L S) (λa x r q=>tT k a L x r q) q
theorem BZ(h:LE a i):LE (dI o w a) (dI o w i):=λL S r q=>by
 cases e:a L S with
 |none=>simp only[dI,nO,nN,e]at q;cases q
 |some z=>have x:=h _ _ _ e;simp only[dI,nO,nN,e]at q;simp only[dI,nO,nN,x];exact q
theorem HK(h:LE a i):LE (eV a) (eV i):=λL S r q=>aQ (h L S) (λ_ _ _ q=>q) q
theorem HF(h:LE f e):LE (vE f) (vE e):=λL S r q=>aQ (h L S) (λ_ _ _ q=>q) q
theorem HH(h:LE a i)(k:LE b z):LE (ac o a b) (ac o i z):=λL S r q=>aQ (h L S) (λ_ x _ q=>aQ (k L x) (λ_ _ _ q=>q) q) q
theorem ED (h:LE a i) (k:LE b z):LE (oW a b) (oW i z):=fun L S r q=>aQ (h L S) (fun v x r q=>by
 cases v with
 |lst p=>exact aQ (k L x) (λ_ _ _ q=>q) q
 |tup p=>exact aQ (k L x) (λ_ _ _ q=>q) q
 |_=>cases q) q
theorem Et(x:LE c H)(h:LE a i)(k:LE b z):LE (CC c a b) (CC H i z):=λL S r q=>aQ (x L S) (λw e r q=>by cases w<;>first|exact k _ _ _ q|exact h _ _ _ q) q
theorem HE(h:LE a i)(k:LE l p):LE (aL a l) (aL i p):=λL S r q=>aQ (h L S) (λ_ x _ q=>aQ (k L x) (λ_ _ _ q=>q) q) q
theorem HL(h:LE f e)(k:LE y u):LE (ae f y) (ae e u):=λL S r q=>aQ (h L S) (λ_ x _ q=>aQ (k L x) (λ_ _ _ q=>q) q) q
theorem Eu(h:LE l p):LE (aw l) (aw p):=λL S r q=>aQ (h L S) (λ_ _ _ q=>q) q
theorem EA(h:LE l p):LE (aP l) (aP p):=λL S r q=>aQ (h L S) (λ_ _ _ q=>q) q
theorem B0(h:LE g k)(x:List P)(v:P)(q:pureOf g x=some v):pureOf k x=some v:=by
 unfold pureOf at q ⊢;cases e:g (x.map .p) [] with
 |none=>rw[e]at q;cases q
 |some z=>rw[e]at q;rw[h _ _ _ e];exact q
theorem wQ(u:∀x v,w x=some v->j x=some v)(h:LE l p):LE (ah w l) (ah j p):=λL S r q=>aQ (h L S) (λx a r q=>by obtain⟨v,e,rfl⟩:=fu.mp q;rw[u _ _ e];rfl) q
theorem zQ(a:LE g k)(h:LE y u):LE (cq g y) (cq k u):=λL S r q=>aQ (h L S) (λs x r q=>aQ (a s x) (λ_ _ _ q=>q) q) q
theorem xQ(a:LE g k)(h:LE y u):LE (gq g y) (gq k u):=λL S r q=>aQ (h L S) (λs x r q=>a s x r q) q
theorem wP (n:∀c g,M c j=some g->∃k,C c j=some k/\LE g k) (h:LE y u):LE (dS M o j y) (dS C o j u):=fun L S r q=>aQ (fun _ e=>e) (fun w a r q=>by
 cases w with
 |p v=>cases q
 |ref i=>
  cases e:a[i]? with
  |none=>simp only[e]at q;cases q
  |some t=>
   cases t with
   |ins c z l=>
    simp only[e]at q ⊢;cases m:M c j with
    |none=>simp only[m]at q;cases q
    |some g=>
     obtain⟨k,x,f⟩:=n c g m;simp only[m,x]at q ⊢;split at q
     .cases q
     .rename_i b;rw[if_neg b];exact aQ (h L a) (λd s r q=>f (.ref i::d) s r q) q
   |_=>simp only[e]at q;cases q) q
theorem B2 {j t:gC}{f:List Nat}{n:Nat}{g:jf} (F:LE j t) (o:LE c H) (h:LE a i):LE (bo j f n g c a) (bo t f n g H i):=fun L S r q=>aQ (F L S) (fun l p r q=>by
 split at q
 .rename_i d;rw[if_pos d];refine aQ (q:=λK s=>some (P.lst K,s)) (λz e=>?_) (λ_ _ _ q=>q) q;clear q d;generalize lG f n L=b at e ⊢;induction l generalizing b p z with
  |nil=>exact e
  |cons x l u=>
   simp only[bA]at e ⊢;cases v:g x b with
   |none=>rw[v]at e;cases e
   |some m=>
    rw[v]at e;simp only at e ⊢;refine aQ (o m p) (λw s r e=>?_) e;cases w with
    |false=>exact u _ _ _ e
    |true=>exact aQ (h m s) (λy A r e=>aQ (λz e=>u _ _ _ e) (λ_ _ _ q=>q) e) e
 .cases q) q
theorem EC(h:LE a i):LE (iH a) (iH i):=λL S r q=>aQ (h L S) (λ_ _ _ q=>q) q
theorem EG (h:LE a i):LE (d_ o a) (d_ o i):=fun L S r q=>aQ (fun _ e=>e) (fun w x r q=>by
 cases e:dD w x with
 |none=>simp only[e]at q;cases q
 |some z=>simp only[e]at q ⊢;exact aQ (h L x) (λ_ _ _ q=>q) q) q
theorem HG(h:LE c H):LE (vB c) (vB H):=λL S r q=>aQ (h L S) (λ_ _ _ q=>q) q
theorem HQ(h:LE a i):LE (bV a) (bV i):=λL S r q=>aQ (h L S) (λ_ _ _ q=>q) q
theorem HR(h:LE f e):LE (bT f) (bT e):=λL S r q=>aQ (h L S) (λ_ _ _ q=>q) q
theorem HU(h:LE c H):LE (oS c) (oS H):=λL S r q=>aQ (h L S) (λ_ _ _ q=>q) q
theorem HV(h:LE c H)(k:LE d A):LE (g8 c d) (g8 H A):=λL S r q=>aQ (h L S) (λw x r q=>by cases w<;>first|exact q|exact k _ _ _ q) q
theorem HS(h:LE c H)(k:LE d A):LE (uO c d) (uO H A):=λL S r q=>aQ (h L S) (λw x r q=>by cases w<;>first|exact k _ _ _ q|exact q) q
theorem bn(h:LE s s'):LE (cM j w s) (cM j w s'):=λx S r q=>by
 unfold cM at q ⊢;split at q
 .rename_i l;rw[if_pos l];cases e:s (x.map some++List.replicate (w-x.length) none) S with
  |none=>rw[e]at q;cases q
  |some z=>rw[e]at q;rw[h _ _ _ e];exact q
 .cases q
end
noncomputable def fC:LS:=["value_of","holds","compared","values_of","Board.family_of","Board.hands_beside","unlike_spots","replaced","without","takeable","cells_behind","whos_behind","targets_of","posted","sendings","step_ends","hand_ends","has_flaw","flawed","flaw_ends","ends_on"]
theorem zK:(Tb.all λd=>!(decide (d.short=("family_of":Str)) ||decide (d.short=("hands_beside":Str))) ||decide (d.name ∈ fC))=true:=by decide +kernel
theorem Er(e:Tb.find? (CU r "family_of")=some d):d.name ∈ fC:=by have x:=bc.mp zK d (qK e);have h:=qz e;unfold CU at h;simp only[Bool.and_eq_true,qR]at h;simpa[h.1.2] using x
theorem Ep(e:Tb.find? (CU r "hands_beside")=some d):d.name ∈ fC:=by have x:=bc.mp zK d (qK e);have h:=qz e;unfold CU at h;simp only[Bool.and_eq_true,qR]at h;simpa[h.1.2] using x
def FU(ψ ψ':Str->GF):Prop:=∀x ∈ fC,LE (ψ x) (ψ' x)
section
variable{ψ ψ':Str->GF}(h:FU ψ ψ'){x:Str}(v:x ∈ fC){l p:gC}{y u:l8}{o:EE}
include h v
theorem HM(k:LE l p):LE (ah (pureOf (ψ x)) l) (ah (pureOf (ψ' x)) p):=wQ (B0 (h x v)) k
theorem HN(k:LE y u):LE (cq (ψ x) y) (cq (ψ' x) u):=zQ (h x v) k
theorem HP(k:LE y u):LE (gq (ψ x) y) (gq (ψ' x) u):=xQ (h x v) k
end
variable{o:EE}
theorem HJ (h:FU ψ ψ') (k:LE y u):LE (dS (mT Tb ψ) o "family_of" y) (dS (mT Tb ψ') o "family_of" u):=wP (fun c g e=>by
 unfold Ev.mT at e ⊢;split at e
 .cases e
 .rename_i n;rw[if_neg n];obtain⟨d,x,rfl⟩:=fu.mp e;rw[x];exact⟨_,rfl,h _ (Er x)⟩) k
theorem HI (h:FU ψ ψ') (k:LE y u):LE (dS (mT Tb ψ) o "hands_beside" y) (dS (mT Tb ψ') o "hands_beside" u):=wP (fun c g e=>by
 unfold Ev.mT at e ⊢;split at e
 .cases e
 .rename_i n;rw[if_neg n];obtain⟨d,x,rfl⟩:=fu.mp e;rw[x];exact⟨_,rfl,h _ (Ep x)⟩) k
section
variable{ψ ψ' ι ι':Str->GF}(h:FU ψ ψ')
include h
theorem bP:LE (bI ψ ι) (bI ψ' ι')/\LE (dN ψ ι) (dN ψ' ι')/\LE (bE ψ ι) (bE ψ' ι')/\LE (dF ψ ι) (dF ψ' ι')/\LE (bx ψ ι) (bx ψ' ι')/\LE (bU ψ ι) (bU ψ' ι')/\LE (eX ψ ι) (eX ψ' ι')/\LE (ei ψ ι) (ei ψ' ι')/\LE (bJ ψ ι) (bJ ψ' ι')/\LE (cR ψ ι) (cR ψ' ι')/\LE (eY ψ ι) (eY ψ' ι')/\LE (cS ψ ι) (cS ψ' ι')/\LE (d8 ψ ι) (d8 ψ' ι'):=by
 refine⟨?_,?_,?_,?_,?_,?_,?_,?_,?_,?_,?_,?_,?_⟩;all_goals first|unfold bI|unfold dN|unfold bE eG aH|unfold dF dJ|unfold bx|unfold bU|unfold eX eL|unfold ei eN eO eP|unfold bJ fM|unfold cR dm fQ|unfold eY|unfold cS dn eB|unfold d8 g6
 all_goals repeat' with_reducible first|exact dO|refine Ey ?_ ?_|refine le_if ?_ ?_ ?_|refine Ew ?_|refine Ez ?_|refine B1 ?_|refine EF ?_ ?_|refine BZ ?_|refine HK ?_|refine HF ?_|refine HH ?_ ?_|refine ED ?_ ?_|refine Et ?_ ?_ ?_|refine HE ?_ ?_|refine HL ?_ ?_|refine Eu ?_|refine EA ?_|refine HM h (by simp[fC]) ?_|refine HJ h ?_|refine HI h ?_|refine wQ (λ_ _ q=>q) ?_|refine HN h (by simp[fC]) ?_|refine HP h (by simp[fC]) ?_|refine B2 ?_ ?_ ?_|refine EC ?_|refine EG ?_|refine HG ?_|refine HQ ?_|refine HR ?_|refine HU ?_|refine HV ?_ ?_|refine HS ?_ ?_
end
theorem ug:Ph 1 "value_of"=cM 2 5 (bI (Ph 0) (Ph 0)):=by kernel_rfl
theorem Aw:Ph 1 "holds"=cM 2 3 (dN (Ph 0) (Ph 0)):=by kernel_rfl
theorem ul:Ph 1 "compared"=cM 3 3 (bK (Ph 0) (Ph 0)):=by kernel_rfl
theorem sg:Ph 1 "values_of"=cM 2 2 (eK (Ph 0) (Ph 0)):=by kernel_rfl
theorem kI:Ph 1 "Board.family_of"=cM 2 2 (dc (Ph 0) (Ph 0)):=by kernel_rfl
theorem ji:Ph 1 "Board.hands_beside"=cM 3 3 (bv (Ph 0) (Ph 0)):=by kernel_rfl
theorem mL:Ph 1 "unlike_spots"=cM 2 3 (cm (Ph 0) (Ph 0)):=by kernel_rfl
theorem uj:Ph 1 "replaced"=cM 3 3 (fF (Ph 0) (Ph 0)):=by kernel_rfl
theorem vM:Ph 1 "without"=cM 2 2 (f_ (Ph 0) (Ph 0)):=by kernel_rfl
theorem uh:Ph 1 "takeable"=cM 4 10 (dF (Ph 0) (Ph 0)):=by kernel_rfl
theorem mM:Ph 1 "cells_behind"=cM 4 11 (bE (Ph 0) (Ph 0)):=by kernel_rfl
theorem oH:Ph 1 "whos_behind"=cM 4 4 (bx (Ph 0) (Ph 0)):=by kernel_rfl
theorem pj:Ph 1 "targets_of"=cM 5 6 (bU (Ph 0) (Ph 0)):=by kernel_rfl
theorem x_:Ph 1 "posted"=cM 5 9 (eX (Ph 0) (Ph 0)):=by kernel_rfl
theorem ui:Ph 1 "sendings"=cM 6 18 (ei (Ph 0) (Ph 0)):=by kernel_rfl
theorem sh:Ph 1 "step_ends"=cM 5 16 (bJ (Ph 0) (Ph 0)):=by kernel_rfl
theorem si:Ph 1 "hand_ends"=cM 3 11 (cR (Ph 0) (Ph 0)):=by kernel_rfl
theorem uk:Ph 1 "has_flaw"=cM 3 3 (eA (Ph 0) (Ph 0)):=by kernel_rfl
theorem ya:Ph 1 "flawed"=cM 3 3 (eY (Ph 0) (Ph 0)):=by kernel_rfl
theorem sj:Ph 1 "flaw_ends"=cM 3 12 (cS (Ph 0) (Ph 0)):=by kernel_rfl
theorem vN:Ph 1 "ends_on"=cM 2 4 (d8 (Ph 0) (Ph 0)):=by kernel_rfl
theorem lv:∀n:Nat,FU (Ph n) (Ph (n+1))
 |0=>λx _ L S r q=>by cases (show(none:Option (D×aD))=some r from q)
 |1=>λx v=>by
  have i:=lv 0;simp only[fC,ba,dB,du]at v;rcases v with rfl|rfl|rfl|rfl|rfl|rfl|rfl|rfl|rfl|rfl|rfl|rfl|rfl|rfl|rfl|rfl|rfl|rfl|rfl|rfl|rfl
  .rw [ug,cJ 0];exact bn (bP i).1
  .rw [Aw,fj 0];exact bn (bP i).2.1
  .rw [ul,gG 0];exact bn (by unfold bK;exact dO)
  .rw [sg,fU 0];exact bn (by unfold eK;exact dO)
  .rw [kI,cd 0];exact bn (by unfold dc;exact dO)
  .rw [ji,ci 0];exact bn (by unfold bv;exact dO)
  .rw [mL,df 0];exact bn (by unfold cm;exact dO)
  .rw [uj,gF 0];exact bn (by unfold fF;exact dO)
  .rw [vM,hU 0];exact bn (by unfold f_;exact dO)
  .rw [uh,fD 0];exact bn (bP i).2.2.2.1
  .rw [mM,dh 0];exact bn (bP i).2.2.1
  .rw [oH,cF 0];exact bn (bP i).2.2.2.2.1
  .rw [pj,dg 0];exact bn (bP i).2.2.2.2.2.1
  .rw [x_,gX 0];exact bn (bP i).2.2.2.2.2.2.1
  .rw [ui,gE 0];exact bn (bP i).2.2.2.2.2.2.2.1
  .rw [sh,eJ 0];exact bn (bP i).2.2.2.2.2.2.2.2.1
  .rw [si,fV 0];exact bn (bP i).2.2.2.2.2.2.2.2.2.1
  .rw [uk,fE 0];exact bn (by unfold eA;exact dO)
  .rw [ya,gY 0];exact bn (bP i).2.2.2.2.2.2.2.2.2.2.1
  .rw [sj,fW 0];exact bn (bP i).2.2.2.2.2.2.2.2.2.2.2.1
  .rw [vN,hV 0];exact bn (bP i).2.2.2.2.2.2.2.2.2.2.2.2
 |n+2=>λx v=>by
  have i:=lv (n+1);simp only[fC,ba,dB,du]at v;rcases v with rfl|rfl|rfl|rfl|rfl|rfl|rfl|rfl|rfl|rfl|rfl|rfl|rfl|rfl|rfl|rfl|rfl|rfl|rfl|rfl|rfl
  .rw [cJ n,cJ (n+1)];exact bn (bP i).1
  .rw [fj n,fj (n+1)];exact bn (bP i).2.1
  .rw [gG n,gG (n+1)];exact bn (by unfold bK;exact dO)
  .rw [fU n,fU (n+1)];exact bn (by unfold eK;exact dO)
  .rw [cd n,cd (n+1)];exact bn (by unfold dc;exact dO)
  .rw [ci n,ci (n+1)];exact bn (by unfold bv;exact dO)
  .rw [df n,df (n+1)];exact bn (by unfold cm;exact dO)
  .rw [gF n,gF (n+1)];exact bn (by unfold fF;exact dO)
  .rw [hU n,hU (n+1)];exact bn (by unfold f_;exact dO)
  .rw [fD n,fD (n+1)];exact bn (bP i).2.2.2.1
  .rw [dh n,dh (n+1)];exact bn (bP i).2.2.1
  .rw [cF n,cF (n+1)];exact bn (bP i).2.2.2.2.1
  .rw [dg n,dg (n+1)];exact bn (bP i).2.2.2.2.2.1
  .rw [gX n,gX (n+1)];exact bn (bP i).2.2.2.2.2.2.1
  .rw [gE n,gE (n+1)];exact bn (bP i).2.2.2.2.2.2.2.1
  .rw [eJ n,eJ (n+1)];exact bn (bP i).2.2.2.2.2.2.2.2.1
  .rw [fV n,fV (n+1)];exact bn (bP i).2.2.2.2.2.2.2.2.2.1
  .rw [fE n,fE (n+1)];exact bn (by unfold eA;exact dO)
  .rw [gY n,gY (n+1)];exact bn (bP i).2.2.2.2.2.2.2.2.2.2.1
  .rw [fW n,fW (n+1)];exact bn (bP i).2.2.2.2.2.2.2.2.2.2.2.1
  .rw [hV n,hV (n+1)];exact bn (bP i).2.2.2.2.2.2.2.2.2.2.2.2
theorem HD(h:n≤w):FU (Ph n) (Ph w):=by
 obtain⟨k,rfl⟩:=Nat.exists_eq_add_of_le h;clear h;induction k with
 |zero=>exact λ_ _=>dO
 |succ k i=>exact λx v L S r q=>lv (n+k) x v L S r (i x v L S r q)
end My
namespace My
open PySem L2 Ev
noncomputable abbrev a8(B:BD):P:=.tup [.lst B.fams,.lst B.roads,.lst B.wishes]
variable{B:BD}
theorem Cw.ok(h:Cw B st):bC 5 st=true:=by
 obtain⟨k,d,rfl,S⟩:=h;have f:bC 4 (.tup k)=true:=bc.mpr λx a=>by
  obtain⟨i,n,rfl⟩:=nB.mp a;obtain⟨_,_,_,_,_,_,_,r,s,w,e,_,m,_,hw⟩:=S.hh i _ _ (dY (by rw[<- S.hl];exact n)) (dY n);have o:bC 2 (.tup s)=true:=bc.mpr λc h=>by obtain⟨i,_,rfl⟩:=m.2 c h;simp
  have p:bC 2 (.tup w)=true:=bc.mpr λc h=>(hw c h).ok 1;rw[e];show(List.all [_,P.tup s,P.tup w] (bC 2))=true;rw[eT,eT,eT,o,p];simp
 have b:bC 4 (.tup d)=true:=bc.mpr λx a=>by obtain⟨q,t,rfl⟩:=S.hr.2 x a;exact bc.mpr λl h=>cc (t.2 l h).ok (by lia)
 show(List.all [P.tup k,P.tup d] (bC 4))=true;rw[eT,eT,f,b];rfl
theorem Ac.ok(h:Ac d):bC 3 d=true:=by obtain⟨w,k,x,r,rfl,_,h⟩:=h;exact bc.mpr λy a=>(h y a).1
noncomputable abbrev Il:P->P:=λy=>match y with | .tup (d::_)=>d|_=>.non
structure EN(B:BD)(hs rds E:List P):Prop where
 len:E.length≤40000
 ok:∀z ∈ E,jb B z
 on:∀n,14≤n->∀(b i:Nat)(S:aD),Bd B b i S->∃d S',Ph n "ends_on" [.ref i,.p (.tup [.tup hs,.tup rds])] S=some (d,S')/\Fr b S S'/\l_ S S' d E
theorem E7(P:Pln B.fams B.roads B.wishes)(L:Places B)(c:StL B p h):∃E,EN B p h E:=by obtain⟨E,a,s,k⟩:=Io P L (n:=14) (by lia) c;refine⟨E,a,s,λn m b i S f=>?_⟩;obtain⟨d,x,e,r⟩:=k b i S f;exact⟨d,x,HD m "ends_on" (by simp[fC]) _ _ _ e,r⟩
variable{n:Nat}
theorem Ip(b:B=xN B.fams B.roads B.wishes)(P:Pln B.fams B.roads B.wishes)(q:18≤n)(c:EN B p r E):pureOf (Ph n "ends_from") [a8 B,.tup [.tup p,.tup r]]=some (.lst (E)):=by obtain⟨n,rfl⟩:=gp (n:=n) (by first|assumption|lia);obtain⟨S,x,h⟩:=uI P (n:=n) (by lia);rw[<- b]at h;obtain⟨d,m,s,f,a⟩:=c.on (n+1) (by lia) _ _ _ h;obtain⟨t,k,_⟩:=a.toP f h.le;have e:Ph n "Board.__init__" [.ref 0,.p (a8 B)] [.ins "Board" [] []]=some (.p .non,S):=x;rw[pi,aj];simp[kn,e,s,k]
section
variable{m:List P}
theorem jL(h:∀f ∈ a,fg m f)(l:a.length≤4):(aA a).length≤16:=by have:=Ai 0 h;unfold aA;simp;lia
theorem wM(s t:Str->GF)(w:P):∀(n:List P)(k:Nat)(a:List P)(g:Option D),(∀f ∈ n,fg m f)->a.length+4 * n.length≤1000 ->
  ∃q,aR (ak 2) (eF s t) n [qp w,ql a,g] []=some (.nx,[qp w,ql (a++(hw k n).map (·.2)),q],[])
 | [],k,a,g,_,_=>⟨g,by simp[aR,hw]⟩
 |f::r,k,a,g,h,S=>by
  obtain⟨A,c,o,l,u,v,H,rfl⟩:=h f List.mem_cons_self;have B:=H.hcr.2;simp only[bt]at S;generalize z:P.tup [.str A,.int (c:Int),.lst o,.lst l,.lst u,.lst v]=F;have j:ar F (.int 1)=some (.int (c:Int)):=by rw[<- z];simp
  have i:gu F=c:=by rw[<- z];simp[gu]
  obtain⟨q,e⟩:=wM s t w r (k+1) (a++List.replicate c F) (qp F) (λx K=>h x (a6 _ K)) (by simp;lia);refine⟨q,?_⟩;have y:(hw k (F::r)).map (·.2)=List.replicate c F++(hw (k+1) r).map (·.2):=by simp[hw,i]
  rw[y,<- List.append_assoc];refine(bR (s:=[qp w,ql a,qp F]) (L2:=[qp w,ql (a++List.replicate c F),qp F]) (k:=[]) rfl ?_).trans e;have d:c≤1000000:=by lia
  have p:c < 1000000:=by lia
  have b:a.length+c≤1000000:=by lia
  simp[eF,j,d,p,b]
theorem wL(x:2≤n)(h:∀f ∈ a,fg m f)(l:a.length≤4)(r w:P):pureOf (Ph n "_law_families") [.tup [.lst a,r,w]]=some (.lst (aA a)):=by obtain⟨n,rfl⟩:=gp (n:=n) (by first|assumption|lia);obtain⟨q,e⟩:=wM (Ph (n+1)) (Ph n) (.tup [.lst a,r,w]) a 0 [] none h (by simp;lia);rw[lS,aj];simp only[ij]at e;simp[iG,e,aA]
theorem qh(A:3≤n)(h:∀f ∈ x,fg m f)(d:x.length≤4)(o k:P)(s:Str) :
  pureOf (Ph n "_law_crew") [.tup [.lst x,o,k],.str s]=some (.lst ((ce (az x) s).map λ(i:Nat)=>P.int (i:Int))):=by
 obtain⟨n,rfl⟩:=gp (n:=n) (by first|assumption|lia);have g:=wL (n:=n+1) (by lia) h d o k;have u:=jL h d;have j:bA (aK [ak 2,ak 3]) (bV (aC eC (eV (ac ar (vv 3) (vi 0))) (aa 1))) (vv 2) (a_ 0 (aA x)) [qt [.lst x,o,k],qs s,none,none] [] =
   some (((a_ 0 (aA x)).filter λv=>match v with | .tup [_,f]=>decide (a9 f=s)|_=>false).map (λv=>match v with | .tup [i,_]=>i|_=>.non),[]):=by
  refine di (Inv:=λL=>∃a b,L=[qt [.lst x,o,k],qs s,a,b]) (λv F L y=>?_) ⟨none,none,rfl⟩;obtain⟨a,b,rfl⟩:=y;obtain⟨i,p,e⟩:=nB.mp F;obtain⟨f,z,rfl⟩:=eI (s:=aA x) (i:=i) (v:=v) (by rw[dY p,e]);obtain⟨K,c,r,l,w,t,H,rfl⟩:=jM h (bL z);exact⟨[qt [.lst x,o,k],qs s,qi (i:Int),qt [.str K,.int (c:Int),.lst r,.lst l,.lst w,.lst t]],rfl,⟨_,_,rfl⟩,by simp[a9];first|done|exact decide_eq_decide.mpr Iff.rfl,λ_=>by simp⟩
 have S:(a_ 0 (aA x)).length≤1000000:=by rw[dM];lia
 rw[sd,aj];simp[lh,bo,g,S,lG,j];rw[C6];unfold ce az;rw[List.filter_map,nq,a7];congr 1;refine List.filter_congr λi p=>?_;have q:i < (aA x).length:=by simpa using p
 simp[q]
theorem K0(s t:Str->GF)(p road:P)(n:Nat):∀(os:List Nat)(a:List P)(x:Option D),a.length+os.length≤100000->∃q,aR (ak 4) (ey s t) (cG os) [qp p,qr 0,qp road,qi (n:Int),x] [.lst (a.map .p)] =
   some (.nx,[qp p,qr 0,qp road,qi (n:Int),q],[.lst ((a++(os.filter λo=>!decide (n=o)).map λo=>pr road n o).map .p)])
 | [],a,x,_=>⟨x,by simp[cG,aR]⟩
 |o::os,a,x,f=>by
  simp only[bt]at f;by_cases h:n=o
  .obtain⟨q,e⟩:=K0 s t p road n os a (qi (o:Int)) (by lia);refine⟨q,?_⟩;have k:(o::os).filter (λo=>!decide (n=o))=os.filter λo=>!decide (n=o):=by simp[h]
   rw[k];refine(bR (s:=[qp p,qr 0,qp road,qi (n:Int),qi (o:Int)]) (L2:=[qp p,qr 0,qp road,qi (n:Int),qi (o:Int)]) (k:=[.lst (a.map .p)]) rfl ?_).trans e;simp[ey,h]
  .obtain⟨q,e⟩:=K0 s t p road n os (a++[pr road n o]) (qi (o:Int)) (by simp;lia);refine⟨q,?_⟩;have k:((o::os).filter (λo=>!decide (n=o))).map (λo=>pr road n o)=pr road n o::(os.filter λo=>!decide (n=o)).map λo=>pr road n o:=by simp[h]
   rw[k,show a++pr road n o::(os.filter λo=>!decide (n=o)).map (λo=>pr road n o)=a++[pr road n o]++(os.filter λo=>!decide (n=o)).map (λo=>pr road n o) by simp];refine(bR (s:=[qp p,qr 0,qp road,qi (n:Int),qi (o:Int)]) (L2:=[qp p,qr 0,qp road,qi (n:Int),qi (o:Int)]) (k:=[.lst ((a++[pr road n o]).map .p)]) rfl ?_).trans e;have z:¬(n:Int)=(o:Int):=by lia
   have l:a.length≤1000000:=by lia
   rw[<- cH];simp[ey,h,z,dD,l,pr]
theorem LH(g:3≤n)(d:∀f ∈ h,fg m f)(l:h.length≤4)(r w:P)(j:gn road):∀(k:List Nat)(x:List P)(v e:Option D),x.length+16 * k.length≤50000->∃q s,aR (ak 3) (iF (Ph n) (Ph (n-1))) (cG k) [qt [.lst h,r,w],qr 0,qp road,v,e] [.lst (x.map .p)] =
   some (.nx,[qt [.lst h,r,w],qr 0,qp road,q,s],[.lst ((x++k.flatMap λt=>((ce (az h) (rB road)).filter λo=>!decide (t=o)).map λo=>pr road t o).map .p)])
 | [],x,v,e,_=>⟨v,e,by simp[cG,aR]⟩
 |i::k,x,v,e,A=>by simp only[bt]at A;have F:(ce (az h) (rB road)).length≤16:=aU (ee _ _) (by unfold az;rw[a7];exact jL d l);obtain⟨s,u⟩:=K0 (Ph n) (Ph (n-1)) (.tup [.lst h,r,w]) road i (ce (az h) (rB road)) x e (by lia);have B:=rc i road (ce (az h) (rB road));obtain⟨q,p,H⟩:=LH g d l r w j k (x++((ce (az h) (rB road)).filter λo=>!decide (i=o)).map λo=>pr road i o) (qi (i:Int)) s (by rw[b_];lia);refine⟨q,p,?_⟩;rw[jx,<- List.append_assoc];refine(bR (s:=[qt [.lst h,r,w],qr 0,qp road,qi (i:Int),e]) rfl ?_).trans H;obtain⟨a,b,C,c,y,z,E,G,K,_,_,rfl⟩:=j;have S:=qh g d l r w b;simp only[rB]at u;show cb _ _ _ _ _=_;simp only[bX];rw[show iH (ah (pureOf (Ph n "_law_crew")) (v2 (vv 0) (ac ar (vv 2) (vi 1)))) [qt [.lst h,r,w],qr 0,qt [.str a,.str b,.str C,.int c,.bl y,.bl z],qi (i:Int),e] [.lst (x.map .p)]=some (cG (ce (az h) b),[.lst (x.map .p)]) by simp[S,cG]];exact u
theorem LG(z:3≤n)(i:∀f ∈ x,fg m f)(l:x.length≤4)(p w:P):∀(o:List P)(e:List P)(j q k:Option D),(∀r ∈ o,gn r)->e.length+256 * o.length≤10000->∃H s t,aR (ak 2) (iD (Ph n) (Ph (n-1))) o [qt [.lst x,p,w],qr 0,j,q,k] [.lst (e.map .p)] =
   some (.nx,[qt [.lst x,p,w],qr 0,H,s,t],[.lst ((e++cv (az x) o).map .p)])
 | [],e,j,q,k,_,_=>⟨j,q,k,by simp[cv,aR]⟩
 |road::o,e,j,q,k,F,I=>by
  simp only[bt]at I;have N:(az x).length≤16:=by unfold az;rw[a7];exact jL i l
  have E:(ce (az x) (rA road)).length≤16:=aU (ee _ _) N;have y:(ce (az x) (rB road)).length≤16:=aU (ee _ _) N;have v:=F road List.mem_cons_self;obtain⟨s,t,S⟩:=LH z i l p w v (ce (az x) (rA road)) e q k (by lia);have J:(wB (az x) road).length≤256:=by have:=rD (az x) road _ y (ce (az x) (rA road));unfold wB;lia
  obtain⟨d,u,g,B⟩:=LG z i l p w o (e++wB (az x) road) (qp road) s t (λr h=>F r (a6 _ h)) (by rw[b_];lia);refine⟨d,u,g,?_⟩;rw[show cv (az x) (road::o)=wB (az x) road++cv (az x) o by simp[cv],<- List.append_assoc];refine(bR (s:=[qt [.lst x,p,w],qr 0,qp road,q,k]) rfl ?_).trans B;obtain⟨a,b,L,c,K,A,M,O,G,_,_,rfl⟩:=v;have C:=qh z i l p w a;simp only[rA]at S;show cb _ _ _ _ _=_;simp only[bX];rw[show iH (ah (pureOf (Ph n "_law_crew")) (v2 (vv 0) (ac ar (vv 2) (vi 0)))) [qt [.lst x,p,w],qr 0,qt [.str a,.str b,.str L,.int c,.bl K,.bl A],q,k] [.lst (e.map .p)]=some (cG (ce (az x) a),[.lst (e.map .p)]) by simp[C,cG]];exact S
theorem BW(x:4≤n)(h:Pln f r w):pureOf (Ph n "_law_pairs") [.tup [.lst f,.lst r,.lst w]]=some (.lst (cv (az f) r)):=by
 obtain⟨n,rfl⟩:=gp (n:=n) (by first|assumption|lia);have:=h.rl
 obtain⟨q,a,s,e⟩:=LG (n:=n+1) (by lia) h.hf h.f0.2 (.lst r) (.lst w) r [] none none none h.hr (by simp;lia);rw[pf,aj];simp only[ij,iJ,jy]at e;simp[kl,e]
end
theorem wo:∀s:List P,CF (s.map .p)=some s
 | []=>rfl
 |x::s=>by simp[CF,wo s]
variable{s:Str->GF}{t:Str->GF}
theorem y3(U:∀c ∈ l,ol c)(hl:l.length≤3)(d:Int)(S:aD)(H F K A B C:Option D)(q n f m r p y o:Option D) :
  ∃(O:List P)(u j:Option D),CellsOk l O/\aR (aK [ak 8,ak 9]) (db s t) (a_ 0 l) [H,F,K,A,B,C,qi d,qr S.length,y,o,q,n,f,m,r,p] (S++[.lst []])=some (.nx,[H,F,K,A,B,C,qi d,qr S.length,u,j,q,n,f,m,r,p],S++[.lst (O.map .p)]):=by
 obtain⟨X,J,e,w,u,j,I,N,rfl,rfl⟩:=bf (g:=aK [ak 8,ak 9]) (b:=db s t) (Inv:=fun i L J=>∃(w:List P) (y o:Option D),w.length=i/\(∀c ∈ w,∃i:Int,i.natAbs≤999/\c=.int i)/\L=[H,F,K,A,B,C,qi d,qr S.length,y,o,q,n,f,m,r,p]/\J=S++[.lst (w.map .p)]) (s:=a_ 0 l) (k:=0) (L:=[H,F,K,A,B,C,qi d,qr S.length,y,o,q,n,f,m,r,p]) (S:=S++[.lst []]) (fun i v L J V T=>by
  obtain⟨c,E,rfl⟩:=eI V;have hi:=aW E;obtain⟨x,lo,a,M,_,Y,Z,b3,b4,rfl⟩:=U c (bL E);obtain⟨w,y,o,I,N,rfl,rfl⟩:=T;obtain⟨z,W,R⟩:∃z:Int,(0 < z/\z < 1152921504606846976)/\L2.atI [P.int 8,.int 32,.int 128] (i:Int)=some (.int z):=by
   have:i=0\/i=1\/i=2:=by lia
   rcases this with rfl|rfl|rfl
   .exact⟨8,by decide,by simp⟩
   .exact⟨32,by decide,by simp⟩
   .exact⟨128,by decide,by simp⟩
  have Q:0 < a-lo+1:=by lia
  have m0:0≤d / z % (a-lo+1):=dw _ (by lia);have m1:d / z % (a-lo+1) < a-lo+1:=d5 _ Q;have G:w.length≤1000000:=by lia
  refine⟨_,[H,F,K,A,B,C,qi d,qr S.length,qi (i:Int),qt [.str x,.int lo,.int a,.int M],q,n,f,m,r,p],S++[.lst ((w++[P.int (lo+d / z % (a-lo+1))]).map .p)],rfl,?_,_,_,_,by simp[I],cz N ⟨_,by lia,rfl⟩,rfl,rfl⟩;rw[<- cH];simp[db,R,W,Q,dD,G]) ⟨[],y,o,rfl,λ_ h=>(by cases h),rfl,rfl⟩
 rw[dM,fq]at I;exact⟨w,u,j,⟨I,N⟩,e⟩
theorem Bs(m:Nat)(T:m≤2)(l:List P)(d:Int)(S:aD)(u j y o H F:Option D)(A q x a n f p:Option D) :
  ∃(G:List P)(r:Option D),G.length=m/\(∀w ∈ G,o9 w)/\aR (ak 8) (c_ s t) (intsFrom 0 m) [u,j,y,ql l,o,H,qi d,F,p,A,qr S.length,q,x,a,n,f] (S++[.lst []])=some (.nx,[u,j,y,ql l,o,H,qi d,F,r,A,qr S.length,q,x,a,n,f],S++[.lst (G.map .p)]):=by
 obtain⟨Q,C,e,c,r,B,E,rfl,rfl⟩:=bf (g:=ak 8) (b:=c_ s t) (Inv:=fun i L C=>∃(c:List P) (p:Option D),c.length=i/\(∀w ∈ c,o9 w)/\L=[u,j,y,ql l,o,H,qi d,F,p,A,qr S.length,q,x,a,n,f]/\C=S++[.lst (c.map .p)]) (s:=intsFrom 0 m) (k:=0) (L:=[u,j,y,ql l,o,H,qi d,F,p,A,qr S.length,q,x,a,n,f]) (S:=S++[.lst []]) (fun i v L C N J=>by
  obtain⟨rfl,R⟩:=ints_get N;obtain⟨c,p,B,E,rfl,rfl⟩:=J;simp only[eD];obtain⟨z,O,I⟩:∃z:Int,(0 < z/\z < 1152921504606846976)/\L2.atI [P.int 512,.int 4096] (i:Int)=some (.int z):=by
   have:i=0\/i=1:=by lia
   rcases this with rfl|rfl
   .exact⟨512,by decide,by simp⟩
   .exact⟨4096,by decide,by simp⟩
  have M:(0:Int) < (l.length:Int)+1:=by lia
  have K:c.length≤1000000:=by lia
  refine⟨_,[u,j,y,ql l,o,H,qi d,F,qi (i:Int),A,qr S.length,q,x,a,n,f],S++[.lst ((c++[P.int (d / z % ((l.length:Int)+1)-1)]).map .p)],rfl,?_,_,_,by simp[B],cz E ⟨_,rfl⟩,rfl,rfl⟩;rw[<- cH];simp[c_,I,O,M,cB,dq,dD,K]) ⟨[],p,rfl,λ_ h=>(by cases h),rfl,rfl⟩
 rw[br,fq]at B;exact⟨c,r,B,E,e⟩
theorem Bt(m:Nat)(hm:m≤3)(d:Int)(S:aD)(o H F K A B C E x n f c:Option D)(j q:Option D) :
  ∃(Q:List P)(w r:Option D),Q.length=m/\(∀l ∈ Q,mq l)/\aR (ak 8) (cY s t) (intsFrom 0 m) [o,H,F,K,A,B,qi d,C,j,E,x,n,f,c,qr S.length,q] (S++[.lst []])=some (.nx,[o,H,F,K,A,B,qi d,C,w,E,x,n,f,c,qr S.length,r],S++[.lst (Q.map .p)]):=by
 obtain⟨L',J,e,p,w,r,I,N,rfl,rfl⟩:=bf (g:=ak 8) (b:=cY s t) (Inv:=fun i L J=>∃(p:List P) (j q:Option D),p.length=i/\(∀l ∈ p,mq l)/\L=[o,H,F,K,A,B,qi d,C,j,E,x,n,f,c,qr S.length,q]/\J=S++[.lst (p.map .p)]) (s:=intsFrom 0 m) (k:=0) (L:=[o,H,F,K,A,B,qi d,C,j,E,x,n,f,c,qr S.length,q]) (S:=S++[.lst []]) (fun i v L J Z W=>by
  obtain⟨rfl,hi⟩:=ints_get Z;obtain⟨p,j,q,I,N,rfl,rfl⟩:=W;simp only[eD];obtain⟨z,y,hz,hy,V,U⟩:∃z y:Int,(0 < z/\z < 1152921504606846976)/\(0 < y/\y < 1152921504606846976)/\L2.atI [P.int 8,.int 800,.int 80000] (i:Int)=some (.int z)/\L2.atI [P.int 4,.int 400,.int 40000] (i:Int)=some (.int y):=by
   have:i=0\/i=1\/i=2:=by lia
   rcases this with rfl|rfl|rfl
   .exact⟨8,4,by decide,by decide,by simp,by simp⟩
   .exact⟨800,400,by decide,by decide,by simp,by simp⟩
   .exact⟨80000,40000,by decide,by decide,by simp,by simp⟩
  obtain⟨u,X,Y,T⟩:∃u:Int,-998≤u/\u≤997/\L2.atI [P.int 0,.int 997,.int 0,.int (-998)] (d / 8000000 % 4)=some (.int u):=by
   have h:d / 8000000 % 4=0\/d / 8000000 % 4=1\/d / 8000000 % 4=2\/d / 8000000 % 4=3:=by lia
   rcases h with h|h|h|h<;>rw[h]<;>simp
  obtain⟨mk,O,M⟩:=nU (a:="ma") (b:="mb") (d / y);have R:PyData.strOk mk=true:=by rcases O with rfl|rfl<;>simp
  have m0:0≤d / z % 4:=dw _ (by decide);have m1:d / z % 4 < 4:=d5 _ (by decide);have G:p.length≤1000000:=by lia
  refine⟨_,[o,H,F,K,A,B,qi d,C,qi (i:Int),E,x,n,f,c,qr S.length,qi (d / z % 4-1+u)],S++[.lst ((p++[P.tup [.str mk,.int (d / z % 4-1+u)]]).map .p)],rfl,?_,_,_,_,by simp[I],cz N ⟨mk,_,R,by lia,rfl⟩,rfl,rfl⟩;rw[<- cH];simp[cY,V,U,hz,hy,T,M,dD,G]) ⟨[],j,q,rfl,λ_ h=>(by cases h),rfl,rfl⟩
 rw[br,fq]at I;exact⟨p,w,r,I,N,e⟩
end My
namespace My
open PySem L2 Ev
variable{B:BD}{n:Nat}
theorem y2(hP:Pln B.fams B.roads B.wishes)(hn:2≤n)(K:List Int)(R U Q O E I H q u j y z:Option D) :
  ∃(hs:List P)(S':aD)(q4' q5' q6' q7' q8' q9' N:Option D),hs.length=(aA B.fams).length/\(∀(k:Nat) f x,(aA B.fams)[k]? = some f->hs[k]? = some x->wa f x)/\S'[0]? = some (.lst (hs.map .p)) /\
   aR (aK [ak 4,ak 5]) (cZ (Ph n) (Ph (n-1))) (a_ 0 (aA B.fams)) [qp (cL K),qp (a8 B),qr 0,ql (aA B.fams),R,U,Q,O,E,I,H,q,u,j,y,z] [.lst []]=some (.nx,[qp (cL K),qp (a8 B),qr 0,ql (aA B.fams),q4',q5',q6',q7',q8',q9',N,q,u,j,y,z],S'):=by
 have h4:=gM hP;obtain⟨L',S',e,J,q4',q5',q6',q7',q8',q9',N,V,h2,W,rfl⟩:=bf (g:=aK [ak 4,ak 5]) (b:=cZ (Ph n) (Ph (n-1))) (Inv:=fun i L S=>∃(J:List P) (R U Q O E I H:Option D),J.length=i/\(∀(k:Nat) x,J[k]? = some x->∀f,(aA B.fams)[k]? = some f->wa f x)/\S[0]? = some (.lst (J.map .p))/\L=[qp (cL K),qp (a8 B),qr 0,ql (aA B.fams),R,U,Q,O,E,I,H,q,u,j,y,z]) (s:=a_ 0 (aA B.fams)) (k:=0) (L:=[qp (cL K),qp (a8 B),qr 0,ql (aA B.fams),R,U,Q,O,E,I,H,q,u,j,y,z]) (S:=[.lst []]) (fun i v L S hv hI=>by
  obtain⟨f,Z,rfl⟩:=eI hv;have hi:=aW Z;obtain⟨C,a,o,l,w,s,X,rfl⟩:=jM hP.hf (bL Z);obtain⟨J,R,U,Q,O,E,I,H,V,h2,W,rfl⟩:=hI;obtain⟨c,d,hd,e1,e2⟩:=gH (n:=n) (by lia) K (k:=29+(i:Int)) (p:=31) (by lia) (by lia) (by lia);obtain⟨m,M,A,hcs,e3⟩:=y3 (s:=Ph n) (t:=Ph (n-1)) X.hce.1 X.cl d S (qp (cL K)) (qp (a8 B)) (qr 0) (ql (aA B.fams)) (qi (i:Int)) (qp (eW C a o l w s)) H q u j y z E I;obtain⟨F,G,hw1,hw2,e4⟩:=Bs (s:=Ph n) (t:=Ph (n-1)) w.length X.wl (aA B.fams) d (S++[.lst (m.map .p)]) (qp (cL K)) (qp (a8 B)) (qr 0) (qi (i:Int)) (qp (eW C a o l w s)) (qr S.length) A q u j y z M;have hl0:0 < S.length:=aW W;have hr0:=len_pos X.r0;have hrp:(0:Int) < (o.length:Int):=by lia
  have r0:0≤d % (o.length:Int):=dw _ (by lia);have r1:d % (o.length:Int) < (o.length:Int):=d5 _ hrp;obtain⟨r,hr⟩:∃r:Nat,d % (o.length:Int)=(r:Int):=⟨(d % (o.length:Int)).toNat,by lia⟩;have hwn:w.length < 1000000:=by have:=X.wl;lia
  have t1:toP 9 (.ref S.length) (S++[.lst (m.map .p)]++[.lst (F.map .p)])=some (.lst m,(S++[SO.lst (m.map .p)]++[SO.lst (F.map .p)]).set S.length (.fz (.lst m))):=dP (by simp);have t2:toP 9 (.ref (S++[SO.lst (m.map .p)]).length) ((S++[SO.lst (m.map .p)]++[SO.lst (F.map .p)]).set S.length (.fz (.lst m)))=some (.lst F,((S++[SO.lst (m.map .p)]++[SO.lst (F.map .p)]).set S.length (.fz (.lst m))).set (S++[SO.lst (m.map .p)]).length (.fz (.lst F))):=dP (by rw[aX (by simp)];exact gK _ _);generalize hT:((S++[SO.lst (m.map .p)]++[SO.lst (F.map .p)]).set S.length (.fz (.lst m))).set (S++[SO.lst (m.map .p)]).length (.fz (.lst F))=T at t2;have Y:T[0]? = some (.lst (J.map .p)):=by rw[<- hT,aX (by simp),aX (by lia),List.getElem?_append_left (by simp),List.getElem?_append_left hl0];exact W
  have hS0:(S++[SO.lst (m.map .p)]++[SO.lst (F.map .p)])[0]? = some (.lst (J.map .p)):=by rw[List.getElem?_append_left (by simp),List.getElem?_append_left hl0];exact W
  refine⟨[qp (cL K),qp (a8 B),qr 0,ql (aA B.fams),qi (i:Int),qp (eW C a o l w s),Q,O,E,I,H,q,u,j,y,z],[qp (cL K),qp (a8 B),qr 0,ql (aA B.fams),qi (i:Int),qp (eW C a o l w s),qi d,qr S.length,G,A,some (.ref (S++[SO.lst (m.map .p)]).length),q,u,j,y,z],T.set 0 (.lst ((J++[P.tup [.int (r:Int),.tup m,.tup F]]).map .p)),rfl,?_,J++[P.tup [.int (r:Int),.tup m,.tup F]],_,_,_,_,_,_,_,by simp[V],ua h2 (λf hf'=>?_),il Y,rfl⟩
  .unfold cZ;rw [al (e:=[qp (cL K),qp (a8 B),qr 0,ql (aA B.fams),qi (i:Int),qp (eW C a o l w s),qi d,O,E,I,H,q,u,j,y,z]) (b:=S) (by simp [e1,e2])];rw [al (e:=[qp (cL K),qp (a8 B),qr 0,ql (aA B.fams),qi (i:Int),qp (eW C a o l w s),qi d,qr S.length,E,I,H,q,u,j,y,z]) (b:=S++[.lst []]) rfl];rw [al (e:=[qp (cL K),qp (a8 B),qr 0,ql (aA B.fams),qi (i:Int),qp (eW C a o l w s),qi d,qr S.length,M,A,H,q,u,j,y,z]) (b:=S++[.lst (m.map .p)]) (by
    rw[bX,vA,show(ac ar (vv 5) (vi 3)) [qp (cL K),qp (a8 B),qr 0,ql (aA B.fams),qi (i:Int),qp (eW C a o l w s),qi d,qr S.length,E,I,H,q,u,j,y,z] (S++[.lst []])=some (.lst l,S++[.lst []]) by simp[FT]];exact e3)]
   rw[al (e:=[qp (cL K),qp (a8 B),qr 0,ql (aA B.fams),qi (i:Int),qp (eW C a o l w s),qi d,qr S.length,M,A,some (.ref (S++[SO.lst (m.map .p)]).length),q,u,j,y,z]) (b:=S++[.lst (m.map .p)]++[.lst []]) rfl];rw[al (e:=[qp (cL K),qp (a8 B),qr 0,ql (aA B.fams),qi (i:Int),qp (eW C a o l w s),qi d,qr S.length,G,A,some (.ref (S++[SO.lst (m.map .p)]).length),q,u,j,y,z]) (b:=S++[.lst (m.map .p)]++[.lst (F.map .p)]) (by rw[bX,show io (eH (eV (ac ar (vv 5) (vi 4)))) [qp (cL K),qp (a8 B),qr 0,ql (aA B.fams),qi (i:Int),qp (eW C a o l w s),qi d,qr S.length,M,A,some (.ref (S++[SO.lst (m.map .p)]).length),q,u,j,y,z] (S++[.lst (m.map .p)]++[.lst []])=some (intsFrom 0 w.length,S++[.lst (m.map .p)]++[.lst []]) by simp[Ll,cB,dq,hwn]];exact e4)]
   refine i' (k:=0) (w:=J) (e:=T) rfl hS0 ?_ Y (by lia);have m1:(ac aO (vv 6) (eH (eV (ac ar (vv 5) (vi 2))))) [qp (cL K),qp (a8 B),qr 0,ql (aA B.fams),qi (i:Int),qp (eW C a o l w s),qi d,qr S.length,G,A,some (.ref (S++[SO.lst (m.map .p)]).length),q,u,j,y,z] (S++[SO.lst (m.map .p)]++[SO.lst (F.map .p)])=some (.int (r:Int),(S++[SO.lst (m.map .p)]++[SO.lst (F.map .p)])):=by simp[La,cB,dq,hr0,hr]
   have m2:(ah bu (v1 (vv 7))) [qp (cL K),qp (a8 B),qr 0,ql (aA B.fams),qi (i:Int),qp (eW C a o l w s),qi d,qr S.length,G,A,some (.ref (S++[SO.lst (m.map .p)]).length),q,u,j,y,z] (S++[SO.lst (m.map .p)]++[SO.lst (F.map .p)])=some (.tup m,(S++[SO.lst (m.map .p)]++[SO.lst (F.map .p)]).set S.length (.fz (.lst m))):=by show aG (aG (toP 9 (.ref S.length) (S++[SO.lst (m.map .p)]++[SO.lst (F.map .p)])) _) _=_;rw[t1];rfl
   have m3:(ah bu (v1 (vv 10))) [qp (cL K),qp (a8 B),qr 0,ql (aA B.fams),qi (i:Int),qp (eW C a o l w s),qi d,qr S.length,G,A,some (.ref (S++[SO.lst (m.map .p)]).length),q,u,j,y,z] ((S++[SO.lst (m.map .p)]++[SO.lst (F.map .p)]).set S.length (.fz (.lst m)))=some (.tup F,T):=by show aG (aG (toP 9 (.ref (S++[SO.lst (m.map .p)]).length) ((S++[SO.lst (m.map .p)]++[SO.lst (F.map .p)]).set S.length (.fz (.lst m)))) _) _=_;rw[t2];rfl
   simp only[oE,A_,xn,m1,m2,m3,av,yH];rfl
  .rw [V,fq,Z]at hf';cases hf';exact⟨C,a,o,l,w,s,rfl,r,m,F,rfl,by lia,hcs,hw1,hw2⟩) ⟨[],R,U,Q,O,E,I,H,rfl,λk x h=>(by simp at h),rfl,rfl⟩
 rw[dM,fq]at V;exact⟨J,S',_,_,_,_,_,_,_,V,λk f x Z hx=>h2 k x hx f Z,W,e⟩
theorem y1(hP:Pln B.fams B.roads B.wishes)(hn:2≤n)(u:List Int)(h0:S0[0]? = some x0)(hr:S0[r]? = some (.lst []))(hr0:0 < r)(j y z H F K A s W N E G q f:Option D) :
  ∃(rds:List P)(X:aD)(Z q8' Q R C U:Option D),bB B rds/\X[0]? = some x0/\X[r]? = some (.lst (rds.map .p)) /\
   aR (aK [ak 12,ak 13]) (cX (Ph n) (Ph (n-1))) (a_ 0 B.PR) [qp (cL u),j,y,z,H,F,W,K,N,A,s,qr r,E,G,q,f] S0=some (.nx,[qp (cL u),j,y,z,H,F,Z,K,q8',A,s,qr r,Q,R,C,U],X):=by
 have h4:=oV hP;obtain⟨L',X,e,J,Z,q8',Q,R,C,U,h1,h2,h3,h5,rfl⟩:=bf (g:=aK [ak 12,ak 13]) (b:=cX (Ph n) (Ph (n-1))) (Inv:=fun i L S=>∃(J:List P) (W N E G q f:Option D),J.length=i/\(∀r ∈ J,∃l,j_ l/\r=.tup l)/\S[0]? = some x0/\S[r]? = some (.lst (J.map .p))/\L=[qp (cL u),j,y,z,H,F,W,K,N,A,s,qr r,E,G,q,f]) (s:=a_ 0 B.PR) (k:=0) (L:=[qp (cL u),j,y,z,H,F,W,K,N,A,s,qr r,E,G,q,f]) (S:=S0) (fun i v L S hv hI=>by
  obtain⟨x,hx,rfl⟩:=eI hv;have hi:=aW hx;obtain⟨road,hro,a,b,rfl⟩:=sT (bL hx);obtain⟨ra,rb,kd,c,d1,d2,_,_,hkd,hc1,hc2,rfl⟩:=hP.hr road hro;obtain⟨J,W,N,E,G,q,f,h1,h2,h3,h5,rfl⟩:=hI;obtain⟨c',d,hd,e1,e2⟩:=gH (n:=n) (by lia) u (k:=34+(i:Int) % 20) (p:=33+(i:Int) / 20) (by lia) (by lia) (by lia);have m0:0≤d % (c+1):=dw _ (by lia);have m1:d % (c+1) < c+1:=d5 _ (by lia);have hcp:0 < c+1:=by lia
  obtain⟨m,hm⟩:∃m:Nat,d % (c+1)=(m:Int):=⟨(d % (c+1)).toNat,by lia⟩;obtain⟨l,I,w,hl1,hl2,e3⟩:=Bt (s:=Ph n) (t:=Ph (n-1)) m (by lia) d S (qp (cL u)) j y z H F K A s (qr r) (qi (i:Int)) (qp (pr (.tup [.str ra,.str rb,.str kd,.int c,.bl d1,.bl d2]) a b)) N f;have hrl:=aW h5;have Y:j_ l:=⟨by lia,hl2⟩;generalize hp:pr (.tup [.str ra,.str rb,.str kd,.int c,.bl d1,.bl d2]) a b=M at e3;have V:ar M (.int 0)=some (.tup [.str ra,.str rb,.str kd,.int c,.bl d1,.bl d2]):=by rw[<- hp];simp[pr]
  have T0:∀(o:SO),(S++[o])[0]? = some x0/\(S++[o])[r]? = some (.lst (J.map .p)):=λo=>⟨by rw[List.getElem?_append_left (by lia)];exact h3,by rw[List.getElem?_append_left hrl];exact h5⟩;have fin:∃(O:List P)(q:Option D)(T:aD),j_ O/\T[0]? = some x0/\T[r]? = some (.lst (J.map .p)) /\
    af (dW (bV (aC eC (eV (ac ar (ac ar (vv 13) (vi 0)) (vi 2))) (eV (vt "heap")))) (am 14 (eV (pL (aa 14)))) ff) (bN (bj (aa 11) (eV (ah bu (v1 (vv 14)))))) [qp (cL u),j,y,z,H,F,qi d,K,I,A,s,qr r,qi (i:Int),qp M,qr S.length,w] (S++[.lst (l.map .p)])=some (.nx,[qp (cL u),j,y,z,H,F,qi d,K,I,A,s,qr r,qi (i:Int),qp M,q,w],T.set r (.lst ((J++[P.tup O]).map .p))):=by
   by_cases hh:kd="heap"
   .obtain⟨O,hz,ez⟩:=pQ Y;refine⟨O,ql O,S++[.lst (l.map .p)],hz,(T0 _).1,(T0 _).2,?_⟩;rw[al (e:=[qp (cL u),j,y,z,H,F,qi d,K,I,A,s,qr r,qi (i:Int),qp M,ql O,w]) (b:=S++[.lst (l.map .p)]) (by simp[V,hh,xA,wo,ez])];exact i' rfl (T0 _).2 (by simp[bu]) (T0 _).2 (by lia)
   .have t1:toP 9 (.ref S.length) (S++[.lst (l.map .p)])=some (.lst l,(S++[SO.lst (l.map .p)]).set S.length (.fz (.lst l))):=dP (by simp);have hT:((S++[SO.lst (l.map .p)]).set S.length (.fz (.lst l)))[r]? = some (.lst (J.map .p)):=by rw[aX (by lia)];exact(T0 _).2
    refine⟨l,qr S.length,(S++[SO.lst (l.map .p)]).set S.length (.fz (.lst l)),Y,by rw[aX (by lia)];exact(T0 _).1,hT,?_⟩;rw[al (e:=[qp (cL u),j,y,z,H,F,qi d,K,I,A,s,qr r,qi (i:Int),qp M,qr S.length,w]) (b:=S++[.lst (l.map .p)]) (by simp[V,hh])];refine i' rfl (T0 _).2 ?_ hT (by lia);show aG (aG (aG (toP 9 (.ref S.length) (S++[SO.lst (l.map .p)])) _) _) _=_;rw[t1];rfl
  obtain⟨O,C,T,hz,hT0,hTr,e4⟩:=fin;refine⟨[qp (cL u),j,y,z,H,F,W,K,N,A,s,qr r,qi (i:Int),qp M,q,f],[qp (cL u),j,y,z,H,F,qi d,K,I,A,s,qr r,qi (i:Int),qp M,C,w],T.set r (.lst ((J++[P.tup O]).map .p)),rfl,?_,J++[P.tup O],_,_,_,_,_,_,by simp [h1],cz h2 ⟨O,hz,rfl⟩,by rw [aX (by lia)];exact hT0,il hTr,rfl⟩;unfold cX;rw [al (e:=[qp (cL u),j,y,z,H,F,qi d,K,N,A,s,qr r,qi (i:Int),qp M,q,f]) (b:=S) (by simp [e1,e2])];rw [al (e:=[qp (cL u),j,y,z,H,F,qi d,K,N,A,s,qr r,qi (i:Int),qp M,qr S.length,f]) (b:=S++[.lst []]) rfl];rw [al (e:=[qp (cL u),j,y,z,H,F,qi d,K,I,A,s,qr r,qi (i:Int),qp M,qr S.length,w]) (b:=S++[.lst (l.map .p)]) (by
   have hm3:m < 1000000:=by lia
   rw[bX,wS];simp[V,hcp,hm,hm3,e3])]
  exact e4) ⟨[],W,N,E,G,q,f,rfl,λ_ h=>(by cases h),h0,hr,rfl⟩
 rw[dM,fq]at h1;exact⟨J,X,_,_,_,_,_,_,⟨h1,h2⟩,h3,h5,e⟩
theorem DO(k:Pln B.fams B.roads B.wishes)(L:5≤n)(a:List Int):∃st,Cw B st/\pureOf (Ph n "_law_standing") [cL a,a8 B]=some st:=by
 obtain⟨n,rfl⟩:=gp (n:=n) (by first|assumption|lia);obtain⟨e,h,m,t,p,v,w,u,q,z,y,b,g⟩:=y2 k (n:=n+1) (by lia) a none none none none none none none none none none none none;obtain⟨s,f,E,G,K,A,C,D,o,H,F,i⟩:=y1 k (n:=n+1) (by lia) a (r:=h.length) (S0:=h++[.lst []]) (x0:=.lst (e.map .p)) (by rw[List.getElem?_append_left (aW b)];exact b) (gK _ _) (aW b) (qp (a8 B)) (qr 0) (ql (aA B.fams)) m t v u q p w none none none none;refine⟨.tup [.tup e,.tup s],⟨e,s,rfl,z,y,o⟩,?_⟩;have j:=wL (n:=n+1) (by lia) k.hf k.f0.2 (.lst B.roads) (.lst B.wishes);have l:=BW (n:=n+1) (by lia) k;have c:(0:Nat)≠h.length:=by have:=aW b;lia
 have I:toP 9 (.ref 0) f=some (.lst e,f.set 0 (.fz (.lst e))):=dP H;have J:toP 9 (.ref h.length) (f.set 0 (.fz (.lst e)))=some (.lst s,(f.set 0 (.fz (.lst e))).set h.length (.fz (.lst s))):=dP (by rw[aX c];exact F);simp only[jy]at g i;rw[lR,aj];show(match fN _ _ [qp (cL a),qp (a8 B),none,none,none,none,none,none,none,none,none,none,none,none,none,none] [] with|some (.rt d,_,S)=>(toP 9 d S).map (λx=>x.fst)|some (.nx,_,_)=>some .non|_=>none)=some (P.tup [.tup e,.tup s]);unfold fN;rw[al (e:=[qp (cL a),qp (a8 B),qr 0,none,none,none,none,none,none,none,none,none,none,none,none,none]) (b:=[.lst []]) rfl];rw[al (e:=[qp (cL a),qp (a8 B),qr 0,ql (aA B.fams),none,none,none,none,none,none,none,none,none,none,none,none]) (b:=[.lst []]) (by simp[j])];rw[al (by rw[bX,show o8 (vv 3) [qp (cL a),qp (a8 B),qr 0,ql (aA B.fams),none,none,none,none,none,none,none,none,none,none,none,none] [.lst []]=some (a_ 0 (aA B.fams),[.lst []]) by simp];exact g)];rw[al (e:=[qp (cL a),qp (a8 B),qr 0,ql (aA B.fams),m,t,p,v,w,u,q,qr h.length,none,none,none,none]) (b:=h++[.lst []]) rfl];rw[al (by rw[bX,show o8 (ah (pureOf (Ph (n+1) "_law_pairs")) (v1 (vv 1))) [qp (cL a),qp (a8 B),qr 0,ql (aA B.fams),m,t,p,v,w,u,q,qr h.length,none,none,none,none] (h++[.lst []])=some (a_ 0 B.PR,h++[.lst []]) by simp[l,BD.PR,BD.N]];exact i)];simp[I,J,bu]
noncomputable def uN:P->P
 | .tup [_,e]=>e
 |_=>.non
def pE(d z:P):Bool:=PyData.eqv (pd (Il z)) (pd d)
variable{t:List P}
theorem C5(h:Ac d)(a:bC 20 (.tup t)=true):AV d (.tup t)=some (PyData.eqv (pd d) (pd (.tup t))):=by have x:=cc h.ok (show 3≤20 by lia);obtain⟨_,_,_,_,rfl,_⟩:=h;show(if (bC 20 _ && bC 20 (.tup t))=true then some _ else none)=_;rw[x,a];rfl
theorem C7(c f:Str->GF)(x:bC 20 (.tup t)=true)(a h:Option D)(S:aD):∀{s:List P},(∀z ∈ s,jb B z)->∀q k:Option D,∃L,aR (aK [ak 3,ak 4]) (dG c f) s [a,h,qt t,q,k] S=match s.find? (pE (.tup t)) with|some z=>some (.rt (.p (uN z)),L,S)|none=>some (.nx,L,S)
 | [],_,_,_=>⟨_,rfl⟩
 |y::s,n,q,k=>by
  obtain⟨d,st,rfl,hd,_⟩:=n y List.mem_cons_self;have e:=C5 hd x;rw[iL];cases b:PyData.eqv (pd d) (pd (.tup t)) with
  |true=>rw[show pE (.tup t) (.tup [d,st])=true from b];refine⟨[a,h,qt t,qp d,qp st],?_⟩;rw[b]at e;unfold aR;simp[dG,e,uN]
  |false=>rw[show pE (.tup t) (.tup [d,st])=false from b];obtain⟨L,m⟩:=C7 c f x a h S (s:=s) (λz r=>n z (a6 _ r)) (qp d) (qp st);rw[b]at e;exact⟨L,(bR (s:=[a,h,qt t,qp d,qp st]) (L2:=[a,h,qt t,qp d,qp st]) (k:=S) rfl (by simp[dG,e])).trans m⟩
theorem Iw(H:B=xN B.fams B.roads B.wishes)(P:Pln B.fams B.roads B.wishes)(C:20≤n)(f:EN B h r E)(o:bC 20 (.tup t)=true) :
  match E.find? (pE (.tup t)) with
  |some z=>pureOf (Ph n "do") [a8 B,.tup [.tup h,.tup r],.tup t]=some (uN z)
  |none=>pureOf (Ph n "do") [a8 B,.tup [.tup h,.tup r],.tup t]=none/\∃x,Xh n "do" [.p (a8 B),.p (.tup [.tup h,.tup r]),.p (.tup t)] []=some (("NoDeed":Str),x):=by
 obtain⟨n,rfl⟩:=MO (n:=n) (by first|assumption|lia);obtain⟨x,q,c⟩:=uI P (n:=n+2) (by lia);rw[<- H]at c;obtain⟨A,K,v,j,p⟩:=f.on (n+2) (by lia) _ _ _ c;obtain⟨a,w,y⟩:=oR (b:=x.length) (g:=Ph (n+2) "ends_on") (u:=ae (aa 0) (ae (aa 1) aV)) (L:=[qr 0,qt [.tup h,.tup r],qt t,none,none]) (S:=x) (l:=[.ref 0,.p (.tup [.tup h,.tup r])]) rfl v j (Nat.le_refl _) p;obtain⟨F,k⟩:=C7 (B:=B) (Ph (n+2)) (Ph (n+1)) o (qr 0) (qt [.tup h,.tup r]) a (s:=E) f.ok none none;have e:Ph (n+2) "Board.__init__" [.ref 0,.p (a8 B)] [.ins "Board" [] []]=some (.p .non,x):=q;have l:cb (iH (cq (Ph (n+2) "ends_on") (ae (aa 0) (ae (aa 1) aV)))) (aK [ak 3,ak 4]) (dG (Ph (n+2)) (Ph (n+1))) [qr 0,qt [.tup h,.tup r],qt t,none,none] x=aR (aK [ak 3,ak 4]) (dG (Ph (n+2)) (Ph (n+1))) E [qr 0,qt [.tup h,.tup r],qt t,none,none] a:=by rw[bX,i0,w];rfl
 have s:Ph (n+3) "do_on" [.ref 0,.p (.tup [.tup h,.tup r]),.p (.tup t)] x=match E.find? (pE (.tup t)) with|some z=>some (.p (uN z),a)|none=>none:=by rw[x8];show(match l7 _ _ [qr 0,qt [.tup h,.tup r],qt t,none,none] x with|some (.rt d,_,x)=>some (d,x)|some (.nx,_,x)=>some (.p .non,x)|_=>none)=_;unfold l7;rw[m9,l,k];cases E.find? (pE (.tup t))<;>rfl
 cases m:E.find? (pE (.tup t)) with
 |some z=>rw[m]at s;dsimp only at s ⊢;rw[Av,aj];simp[v0,e,s]
 |none=>
  rw[m]at k s;dsimp only at k s ⊢;refine⟨by rw[Av,aj];simp[v0,e,s],a,?_⟩;have u:Xh (n+3) "do_on" [.ref 0,.p (.tup [.tup h,.tup r]),.p (.tup t)] x=some (("NoDeed":Str),a):=by rw[u0];show(((kA _ _ [qr 0,qt [.tup h,.tup r],qt t,none,none] x).map λz=>(z.1,z.2.2)).bind λz=>if Rs.contains z.1=true then some z else none)=_;unfold kA;rw[A4,l,k];rfl
  rw[AZ];show(((m7 _ _ _ [qp (a8 B),qt [.tup h,.tup r],qt t] []).map λz=>(z.1,z.2.2)).bind λz=>if Rs.contains z.1=true then some z else none)=_;have i:m7 (Ph (n+3)) (Ph (n+2)) (Xh (n+3)) [qp (a8 B),qt [.tup h,.tup r],qt t] []=some (("NoDeed":Str),[qp (a8 B),qt [.tup h,.tup r],qt t],a):=by unfold m7;simp[e,u]
  rw[i];rfl
def kQ:Option P->P
 |some z=>.tup [.str "told",uN z]
 |none=>.tup [.str "refused",.non]
theorem Bj(v:B=xN B.fams B.roads B.wishes)(P:Pln B.fams B.roads B.wishes)(u:22≤n)(d:EN B w r E)(q:bC 20 (.tup t)=true) :
  pureOf (Ph n "_law_told") [a8 B,.tup [.tup w,.tup r],.tup t]=some (kQ (E.find? (pE (.tup t)))):=by
 obtain⟨n,rfl⟩:=gp (n:=n) (by first|assumption|lia);have e:=Iw v P (n:=n+1) (by lia) d q;generalize E.find? (pE (.tup t))=o at e;rw[rY,aj];cases o with
 |some z=>dsimp only at e;simp[i7,vh,e,ni,de,kQ]
 |none=>
  dsimp only at e;obtain⟨m,S,p⟩:=e;have h:gB nl Rs "NoPlan" "NoDeed"=some false:=by decide +kernel
  have x:gB nl Rs "NotPossible" "NoDeed"=some false:=by decide +kernel
  have s:gB nl Rs "NoText" "NoDeed"=some false:=by decide +kernel
  have k:gB nl Rs "TooMany" "NoDeed"=some false:=by decide +kernel
  have f:gB nl Rs "NoDeed" "NoDeed"=some true:=by decide +kernel
  have b:gB nl Rs "ValueError" "NoDeed"=some true:=by decide +kernel
  have c:("NoDeed":Str) ∈ Rs/\((nl.lookup ("NoDeed":Str)).any λa=>decide (("RoadError":Str) ∈ a))=true:=by decide +kernel
  simp[i7,vh,m,p,ni,de,kQ,zZ,h,x,s,k,f,b,c]
theorem nR{ps:List P}(x:L[3]? = some (qr 0))(e:v L [.lst (ps.map .p)]=some (y,[.lst (ps.map .p)]))(a:k L [.lst (ps.map .p)]=some (.int (j:Int),[.lst (ps.map .p)]))(s:j < ps.length) :
  dI (aa 3) k v L [.lst (ps.map .p)]=some (.nx,L,[.lst ((ps.set j y).map .p)]):=by
 have h:L2.vw (ps.map D.p).length (j:Int)=some j:=by unfold L2.vw;rw[if_pos (by lia),if_pos (by rw[a7];lia)];simp
 rw[a7]at h;unfold dI nO nN;rw[e];simp[x,a,jE,dD,h,List.map_set]
theorem yX(hn:2≤n)(r:Int)(h:Ac d):∃t,bC 20 (.tup t)=true/\pureOf (Ph n "_law_spoiled") [.int r,d]=some (.tup t):=by
 obtain⟨n,rfl⟩:=gp (n:=n) (by first|assumption|lia);obtain⟨w,k,x,G,rfl,Z,o⟩:=h;have J:0 < (P.str w::.int k::x::G).length/\(P.str w::.int k::x::G).length≤5:=by simp;lia
 generalize P.str w::.int k::x::G=p at o J ⊢;have E:(0:Int) < (p.length:Int):=by lia
 have m0:=dw r (Int.ne_of_gt E);have m1:=d5 r E;obtain⟨j,hj,l⟩:∃j:Nat,r % (p.length:Int)=(j:Int)/\j < p.length:=⟨(r % (p.length:Int)).toNat,by lia,by lia⟩;obtain⟨N,U⟩:=o p[j] (gc l);have O:L2.atI (p.map D.p) (j:Int)=some (.p p[j]):=aY (by lia) (by simp[l]);generalize p[j]=y at N U O;let a:Lc:=[qi r,qt p,qi (j:Int),qr 0]
 have t2:∀u:List P,toP 9 (.ref 0) [.fz (.lst u)]=some (.lst u,[.fz (.lst u)]):=λ_=>rfl;have V:∀u:List P,toP 9 (.ref 0) [.lst (u.map .p)]=some (.lst u,[.fz (.lst u)]):=λu=>dP rfl;have b:∀{mid:ES}{i:Nat}{v:P},bC 19 v=true->mid a [.lst (p.map .p)]=some (.nx,a,[.lst ((p.set i v).map .p)])->∃t,bC 20 (.tup t)=true/\∃L S,af mid (aI (eV (ah bu (v1 (vv 3))))) a [.lst (p.map .p)]=some (.rt (.p (.tup t)),L,S):=λ{mid i v} K E=>by
  refine⟨p.set i v,bc.mpr λz q=>?_,a,[.fz (.lst (p.set i v))],?_⟩
  .rcases uY q with q|rfl
   .exact cc (o z q).1 (by lia)
   .exact K
  .rw [al E];simp[-List.map_set,a,V,bu]
 have M:∃t,bC 20 (.tup t)=true/\∃L S,eS (Ph (n+1)) (Ph n) [qi r,qt p,none,none] []=some (.rt (.p (.tup t)),L,S):=by
  unfold eS;rw[al (e:=[qi r,qt p,qi (j:Int),none]) (b:=[]) (by simp[cB,dq,J.1,hj])];rw[al (e:=a) (b:=[.lst (p.map .p)]) rfl];by_cases Q:r / 8 % 4=0
  .have Y:(p.take j).length+(p.drop (j+1)).length≤1000000:=by simp;lia
   refine⟨p.take j++p.drop (j+1),bc.mpr λz q=>cc (o z ?_).1 (by lia),a,[.fz (.lst p)],rh ?_⟩
   .rcases dA.mp q with q|q
    .exact lz q
    .exact qH q
   .simp only[a];simp[Q,V,t2,oP,lX,bu,-List.length_take,-List.length_drop,Y]
  .rw [al (e:=a) (b:=[.lst (p.map .p)]) (by simp[a,Q])];by_cases B:j=0
   .obtain⟨v,K,H⟩:=dL (s:=[P.str "step",.str "lose",.str "double",.str "walk"]) (by simp) (r / 32);have H:L2.atI [P.str "step",.str "lose",.str "double",.str "walk"] (r / 32 % 4)=some v:=H;have ov:bC 19 v=true:=by
     simp only[ba,dB,du]at K;rcases K with rfl|rfl|rfl|rfl<;>decide +kernel
    refine b (i:=0) ov ?_;have hp:=nR (L:=a) (k:=vi 0) (v:=ac ar (aP (v4 (vt "step") (vt "lose") (vt "double") (vt "walk"))) (ac aO (ac aB (vv 0) (vi 32)) (vi 4))) (ps:=p) (j:=0) (y:=v) rfl (by simp[a,H]) (by simp) J.1;have A:∀(f g:ES),dW (bV (aC eC (aa 2) (eV (vi 0)))) f g a [.lst (p.map .p)]=f a [.lst (p.map .p)]:=λf g=>by simp[a,B]
    rw[A];exact hp
   .have A:∀(f g:ES),dW (bV (aC eC (aa 2) (eV (vi 0)))) f g a [.lst (p.map .p)]=g a [.lst (p.map .p)]:=λf g=>by simp[a,B]
    have m:mK (aa 3) (vv 2) a [.lst (p.map .p)]=some (.p y,[.lst (p.map .p)]):=by simp[a,O]
    have C:(vv 2) a [.lst (p.map .p)]=some (.int (j:Int),[.lst (p.map .p)]):=by simp[a]
    have F:∀(T:String)(f g:ES),dW (bT (eV (u4 T (mK (aa 3) (vv 2))))) f g a [.lst (p.map .p)]=if gU T y=true then f a [.lst (p.map .p)] else g a [.lst (p.map .p)]:=λT f g=>by rw[iW,IN,oE,Bc,m];cases I:gU T y<;>simp[I]
    have R:∀(f g:ES),dW (bV (aC ni (mK (aa 3) (vv 2)) (eV (vC (.non))))) f g a [.lst (p.map .p)]=if de (.p y)=true then f a [.lst (p.map .p)] else g a [.lst (p.map .p)]:=λf g=>by rw[iW,IM,Ba,m];cases I:de (.p y)<;>simp[ni,I]
    rcases U with ⟨s,rfl,hs⟩|⟨i,rfl⟩|⟨u,rfl⟩|rfl
    .have W:=qg (x:=s) (y:="w") (by have:("w":Str).length=1:=rfl;lia);refine b (i:=j) (v:=.str (s++"w")) (show PyData.strOk (s++"w")=true from pP (show PyData.strOk s=true by simpa using N) (show PyData.strOk "w"=true by decide +kernel)) ?_;rw[A,F,if_pos (by rfl)];exact nR rfl (by rw[u3,ka,m];simp[W]) C l
    .obtain⟨v,K,H⟩:=dL (s:=[P.int 1,.int (-1),.int (-5),.int 100000000000000000000]) (by simp) (r / 32);have H:L2.atI [P.int 1,.int (-1),.int (-5),.int 100000000000000000000] (r / 32 % 4)=some v:=H;obtain⟨c,rfl⟩:∃c,v=.int c:=by
      simp only[ba,dB,du]at K;rcases K with rfl|rfl|rfl|rfl<;>exact⟨_,rfl⟩
     refine b (i:=j) (v:=.int (i+c)) (by simp) ?_;rw [A,F,if_neg (by simp [gU,yu]),F,if_neg (by simp [gU,yu]),R,if_neg (by simp [de])];exact nR rfl (by
      rw[u3,ka,m];have X:ye (.int 10) (.int 20)=some (.int 100000000000000000000):=by rfl
      simp[a,X,H]) C l
    .refine b (i:=j) (v:=.tup (cut u none (some (-1)))) (bc.mpr λz q=>?_) ?_
     .exact cc (bc.mp (show(u.all (bC 1))=true from N) z (k_.1 z q)) (by lia)
     .rw [A,F,if_neg (by simp[gU,yu]),F,if_pos (by rfl)];exact nR rfl (by rw[A',ka,m];simp[AC]) C l
    .refine b (i:=j) (v:=.tup [.int (r / 32 % 4),.int 0]) (by simp) ?_;rw[A,F,if_neg (by simp[gU,yu]),F,if_neg (by simp[gU,yu]),R,if_pos (by rfl)];exact nR rfl (by simp[a]) C l
 obtain⟨t,ok,L,S,e⟩:=M;refine⟨t,ok,?_⟩;rw[mI,aj];show(match eS _ _ [qi r,qt p,none,none] [] with|some (.rt d,_,S)=>(toP 9 d S).map (λx=>x.fst)|some (.nx,_,_)=>some .non|_=>none)=some (P.tup t);rw[e];rfl
theorem rV.ok(q:uM e)(f:∀x ∈ r,jo x)(h:rV s r e w l v):bC 8 v=true:=by
 obtain⟨i,b,j,k,g,p,m,⟨a,_⟩,S,rfl⟩:=h;have N:=nY q.1;have M:∀x ∈ o5 e++more k,jo x:=λx n=>(dA.mp n).elim (N x) (nc k x);have o:bC 7 (.lst g)=true:=BQ λc h=>by obtain⟨x,t,n,d,rfl⟩:=S.ch c h;simp[n,cc (d.ok M) (show 4≤5 by lia)]
 have u:bC 7 (.lst p)=true:=BQ λc h=>cc ((S.hsn c h).ok M) (by lia);show(List.all [P.str i,b,j,k,.lst g,.lst p,m] (bC 7))=true;simp only[eT,List.all_nil,o,u,wG,a,(f b S.h1).ok 7,(f m S.h2).ok 7,S.wh.ok N,cc S.htk.ok (show 2≤7 by lia),Bool.and_true]
theorem zl(m:Pln B.fams B.roads B.wishes):bC 20 (.tup [.lst B.fams,.lst B.roads,.lst B.wishes])=true:=by
 have D:bC 19 (.lst B.fams)=true:=BQ λf p=>by
  obtain⟨C,n,o,e,w,t,F,rfl⟩:=m.hf f p;have u:bC 17 (.lst o)=true:=fB F.hro 16;have g:bC 17 (.lst e)=true:=BQ λc h=>by obtain⟨x,lo,L,l,K,_,_,_,_,rfl⟩:=F.hce.1 c h;have v:PyData.strOk x=true:=K;simp[v]
  have i:bC 17 (.lst w)=true:=fB F.hwh 16;have j:bC 17 (.lst t)=true:=BQ λc h=>cc ((F.hst c h).ok F.hce F.hro) (by lia);show(List.all [P.str C,.int (n:Int),.lst o,.lst e,.lst w,.lst t] (bC 17))=true;simp only[eT,List.all_nil,u,g,i,j,wG,BP,F.hnm,Bool.and_true]
 have E:bC 19 (.lst B.roads)=true:=BQ λr q=>by
  obtain⟨a,b,A,c,I,J,y,z,d,_,_,rfl⟩:=m.hr r q;have:PyData.strOk A=true:=by rcases d with rfl|rfl<;>simp
  simp[y,z,this]
 have G:bC 19 (.lst B.wishes)=true:=BQ λr q=>by
  obtain⟨k,f,s,H,p,S,rfl⟩:=m.hw r q;have:PyData.strOk k=true:=by rcases H with rfl|rfl<;>simp
  simp[p,S,this]
 show(List.all [P.lst B.fams,.lst B.roads,.lst B.wishes] (bC 19))=true;simp only[eT,List.all_nil,D,E,G,Bool.and_true]
theorem Mu(h:∀x ∈ t,bC n x=true):bC (n+1) (.tup t)=true:=bc.mpr h
theorem HX{B:BD}{n:Nat}(G:2≤n)(h:List Int){T A E:List P}(Q:EN B T A E)(m w:Option D){H:List P}(hd:∀d ∈ H,∃t,d=.tup t/\bC 20 d=true)(X:H.length≤10)(u j l y z o q:Option D) :
  ∃(F:List P)(a f:Option D),(∀d ∈ F,∃t,d=.tup t/\bC 20 d=true)/\aR (aK [ak 5,ak 6]) (i_ (Ph n) (Ph (n-1))) (a_ 0 (E.take 12)) [qp (cL h),m,w,u,qr 0,j,l,y,z,o,q] [.lst (H.map .p)]=some (.nx,[qp (cL h),m,w,u,qr 0,a,f,y,z,o,q],[.lst (F.map .p)]):=by
 obtain⟨V,W,e,s,a,f,O,K,rfl,rfl⟩:=bf (g:=aK [ak 5,ak 6]) (b:=i_ (Ph n) (Ph (n-1))) (Inv:=fun i L S=>∃(s:List P) (j l:Option D),s.length≤10+i/\(∀d ∈ s,∃t,d=.tup t/\bC 20 d=true)/\L=[qp (cL h),m,w,u,qr 0,j,l,y,z,o,q]/\S=[.lst (s.map .p)]) (s:=a_ 0 (E.take 12)) (k:=0) (L:=[qp (cL h),m,w,u,qr 0,j,l,y,z,o,q]) (S:=[.lst (H.map .p)]) (fun i v L S U R=>by
  obtain⟨x,I,rfl⟩:=eI U;have C:=aW I;have C:i < 12:=by rw[List.length_take]at C;lia
  obtain⟨s,j,l,O,K,rfl,rfl⟩:=R;obtain⟨d,st,rfl,hd,_⟩:=Q.ok x (lz (bL I));obtain⟨c,r,_,J,M⟩:=gH G h (k:=55+(i:Int) % 8) (p:=40+(i:Int)) (by lia) (by lia) (by lia);obtain⟨t,ok,N⟩:=yX G r hd;refine⟨[qp (cL h),m,w,u,qr 0,qi (i:Int),qt [d,st],y,z,o,q],[qp (cL h),m,w,u,qr 0,qi (i:Int),qt [d,st],y,z,o,q],[SO.lst ((s++[P.tup t]).map D.p)],rfl,?_,s++[.tup t],qi (i:Int),qt [d,st],by simp;lia,cz K ⟨t,rfl,ok⟩,rfl,rfl⟩;unfold i_;exact i' (k:=0) (e:=[.lst (s.map .p)]) rfl rfl (by simp[J,M,N]) rfl (by lia)) ⟨H,j,l,by lia,hd,rfl,rfl⟩
 exact⟨s,a,f,K,e⟩
theorem HW{B:BD}(T:B=xN B.fams B.roads B.wishes)(N:Pln B.fams B.roads B.wishes){n:Nat}(V:22≤n){g w E:List P}(j:EN B g w E){t:List P}(M:bC 20 (.tup t)=true){st:P}(H:st=.tup [.tup g,.tup w])(a h s k i q:Option D)(S:aD) :
  ∃G r,i9 (Ph n) (Ph (n-1)) [a,qp (a8 B),qp st,ql E,h,s,k,qp (a8 B),qt t,i,q] S=some (.nx,[a,qp (a8 B),qp st,ql E,h,s,k,qp (a8 B),qt t,G,r],S):=by
 have u:=Bj T N (n:=n) V j M;have m:=j.ok;have O:=j.len;have Q:xK (a8 B) (a8 B)=some false:=tL (zl N);rw[<- H]at u;generalize a8 B=l at u Q ⊢;have J:bA (aK [ak 11,ak 12]) (bV (aC eC (aa 11) (aa 8))) (vv 12) E [a,qp l,qp st,ql E,h,s,k,qp l,qt t,i,q,none,none] S=some ((E.filter (pE (.tup t))).map uN,S):=by refine di (p:=pE (.tup t)) (f:=uN) (Inv:=λL=>∃d I,L=[a,qp l,qp st,ql E,h,s,k,qp l,qt t,i,q,d,I]) (λv X L U=>?_) ⟨none,none,rfl⟩;obtain⟨d,I,rfl⟩:=U;obtain⟨d,e,rfl,hd,_⟩:=m v X;exact⟨[a,qp l,qp st,ql E,h,s,k,qp l,qt t,i,q,qp d,qp e],rfl,⟨_,_,rfl⟩,by simp[C5 hd M,pE],λ_=>by simp[uN]⟩
 have c:∀z ∈ (E.filter (pE (.tup t))).map uN,bC 5 z=true:=λz A=>by obtain⟨y,Y,rfl⟩:=cN.mp A;obtain⟨d,e,rfl,_,g⟩:=m y (iN.mp Y).1;exact g.ok
 have b:(E.find? (pE (.tup t))).map uN=((E.filter (pE (.tup t))).map uN).head?:=by rw[List.head?_map,List.head?_filter]
 have C:=j1 (s:=(E.filter (pE (.tup t))).map uN) (BQ fun z A=>cc (c z A) (by lia));generalize (E.filter (pE (.tup t))).map uN=F at J c b C;generalize E.find? (pE (.tup t))=o at u b;have Z:xK (kQ o) (kQ o)=some false:=tL (by
  cases o with
  |none=>decide +kernel
  |some z=>
   cases F with
   |nil=>cases b
   |cons y R=>
    have:uN z=y:=Option.some.inj b;have ok:bC 19 (uN z)=true:=cc (c _ (by rw[this];exact List.mem_cons_self)) (by lia);exact Mu (n:=19) λx K=>by
     rcases ba.mp K with rfl|K
     .decide +kernel
     .rw [iO.mp K];exact ok)
 refine⟨ql F,qp (kQ o),?_⟩;unfold i9;rw [al (e:=[a,qp l,qp st,ql E,h,s,k,qp l,qt t,ql F,q]) (b:=S) (by
  have W:E.length≤1000000:=by lia
  rw[dQ,oE];unfold bo;rw[i0];simp[W,lG,J])]
 rw [al (e:=[a,qp l,qp st,ql E,h,s,k,qp l,qt t,ql F,qp (kQ none)]) (b:=S) rfl];rw [al (e:=[a,qp l,qp st,ql E,h,s,k,qp l,qt t,ql F,qp (kQ o)]) (b:=S) (by
  cases o with
  |none=>
   cases F with
   |nil=>simp[C]
   |cons y R=>cases b
  |some z=>
   cases F with
   |nil=>cases b
   |cons y R=>have:uN z=y:=Option.some.inj b;subst this;simp[C,kQ])]
 simp[u,Z,Q]
theorem EH{n:Nat}(hn:30≤n)(s:List Int):pureOf (Ph n "law") [cL s]=some (.bl true):=by
 obtain⟨n,rfl⟩:=gp (n:=n) (by first|assumption|lia);obtain⟨m,r,w,j,M⟩:=BF (n:=n+1) (by lia) s;generalize a:xN m r w=B;have D:B.fams=m:=by rw[<- a];rfl
 have G:B.roads=r:=by rw[<- a];rfl
 have hw:B.wishes=w:=by rw[<- a];rfl
 have F:B=xN B.fams B.roads B.wishes:=by rw[D,G,hw,a]
 rw[<- D,<- G,<- hw]at j M;clear a D G hw;obtain⟨st,f,Q⟩:=DO j (n:=n+1) (by lia) s;obtain⟨hs,Z,f,W⟩:=f;have V:Places B:=by rw[F];exact xM _ _ _
 obtain⟨E,K⟩:=E7 j V W;have J:=Ip F j (n:=n+1) (by lia) K;rw[<- f]at J;have N:=λ{t:List P}(T:bC 20 (.tup t)=true)=>HW F j (n:=n+1) (by lia) K T f;simp only[jy]at N;obtain⟨h,y,z,C,H⟩:=HX (B:=B) (n:=n+1) (by lia) s K (qp (a8 B)) (qp st) (H:=[.tup [],.tup [.str "step"],.tup [.str "lose",.int 0,.int 0,.int 0],.tup [.str "double",.int (-1),.int 0,.int 0],.tup [.str "step",.int 0,.str "",.non,.tup []]]) (λd hd=>by simp only[ba,dB,du]at hd;rcases hd with rfl|rfl|rfl|rfl|rfl<;>exact⟨_,rfl,by decide +kernel⟩) (by simp) (ql E) none none none none none none
 simp only[jy]at H;generalize A:([.tup [],.tup [.str "step"],.tup [.str "lose",.int 0,.int 0,.int 0],.tup [.str "double",.int (-1),.int 0,.int 0],.tup [.str "step",.int 0,.str "",.non,.tup []]]:List P)=c at H;generalize l:a8 B=p at *
 obtain⟨L',S',R,I,o,q,rfl,rfl⟩:=bf (g:=ak 8) (b:=i9 (Ph (n+1)) (Ph n)) (Inv:=λ_ L S=>∃I o q,L=[qp (cL s),qp p,qp st,ql E,qr 0,y,z,qp p,I,o,q]/\S=[.fz (.lst h)]) (s:=h) (k:=0) (L:=[qp (cL s),qp p,qp st,ql E,qr 0,y,z,qp p,none,none,none]) (S:=[.fz (.lst h)]) (λi v L S X U=>by obtain⟨I,o,q,rfl,rfl⟩:=U;obtain⟨t,rfl,ok⟩:=C v (bL X);obtain⟨Y,O,e⟩:=N ok (qp (cL s)) (qr 0) y z o q [.fz (.lst h)];exact⟨_,_,_,rfl,e,_,_,_,rfl,rfl⟩) ⟨none,none,none,rfl,rfl⟩
 have u:=oP (xs:=E) 12;rw[show((12:Nat):Int)=12 from rfl]at u;have t1:toP 9 (.ref 0) [.lst (h.map .p)]=some (.lst h,[.fz (.lst h)]):=dP rfl;rw[Ce,aj];show(match sQ _ _ [qp (cL s),none,none,none,none,none,none,none,none,none,none] [] with|some (.rt d,_,S)=>(toP 9 d S).map (λx=>x.fst)|some (.nx,_,_)=>some .non|_=>none)=some (P.bl true);unfold sQ;rw[al (e:=[qp (cL s),qp p,none,none,none,none,none,none,none,none,none]) (b:=[]) (by simp[M,l])];rw[al (e:=[qp (cL s),qp p,qp st,none,none,none,none,none,none,none,none]) (b:=[]) (by simp[Q])];rw[al (e:=[qp (cL s),qp p,qp st,ql E,none,none,none,none,none,none,none]) (b:=[]) (by simp[J])];rw[al (e:=[qp (cL s),qp p,qp st,ql E,qr 0,none,none,none,none,none,none]) (b:=[.lst (c.map .p)]) (by rw[<- A];simp)];rw[al (by rw[bX,show o8 (jB (vv 3) fZ (fI (vi 12))) [qp (cL s),qp p,qp st,ql E,qr 0,none,none,none,none,none,none] [.lst (c.map .p)]=some (a_ 0 (E.take 12),[.lst (c.map .p)]) by simp[u]];exact H)];rw[al (e:=[qp (cL s),qp p,qp st,ql E,qr 0,y,z,qp p,none,none,none]) (b:=[.lst (h.map .p)]) (by rw[<- l];simp[iq])];rw[al (by rw[bX,show iH (vv 4) [qp (cL s),qp p,qp st,ql E,qr 0,y,z,qp p,none,none,none] [.lst (h.map .p)]=some (h,[.fz (.lst h)]) by simp[t1]];exact R)];rfl
theorem zR{s:List Int}(l:s.length≤63)(h:yq H)(S:ie K H a (s.map V.int)):oZ K (IT Gv Att nl Rs Tb 200 "law") [.ref a] H (λv _=>v=.bl true) (λ_ _ _=>False):=by have e:=EH (n:=200) (by decide) s;unfold Ph at e;exact EI h S e
end My
namespace PySem.W.Fast
def tw14404369318740462484:Unit:=()
def tw13654253138438256201:Unit:=()
def tw7055620389784941593:Unit:=()
def tw118387599712673855:Unit:=()
def tw10955049859885114040:Unit:=()
def tw17601857751719722601:Unit:=()
def tw3227571488399193046:Unit:=()
def tw16509403202022521752:Unit:=()
def tw7924171367773143817:Unit:=()
def tw493430679035948604:Unit:=()
def tw1490104725481071447:Unit:=()
def tw4515134511354885013:Unit:=()
def tw5493070598015932185:Unit:=()
def tw7769102883945677710:Unit:=()
def tw12601494997866149857:Unit:=()
def tw4647822123887545474:Unit:=()
def tw1855939145139249264:Unit:=()
def tw8663492123897508994:Unit:=()
def tw13119090815117576060:Unit:=()
def tw16745445835693247319:Unit:=()
def tw4481484624778985716:Unit:=()
def tw3114952140157807628:Unit:=()
def tw577577529263903199:Unit:=()
def tw7017741152309946054:Unit:=()
def tw9588791155491280820:Unit:=()
def tw4813904518028593081:Unit:=()
def tw14665323320520917935:Unit:=()
def tw4521910980343336649:Unit:=()
def tw12962883339048320447:Unit:=()
def tw15697696608555469527:Unit:=()
def tw5714442666011315435:Unit:=()
def tw12656809543207330315:Unit:=()
def tw9197899336358590702:Unit:=()
def tw11469750700842933163:Unit:=()
def tw5115560596580847486:Unit:=()
def tw12509784580205597709:Unit:=()
def tw5548991894478722985:Unit:=()
def tw14153677314728880064:Unit:=()
def tw1648888099284066388:Unit:=()
def tw1703454164452820974:Unit:=()
def tw14843141616741490392:Unit:=()
def tw12696029366363690121:Unit:=()
def tw6072908945486393867:Unit:=()
def tw6773083089735341870:Unit:=()
def tw14460958218696070651:Unit:=()
def tw17543235077650379389:Unit:=()
def tw3096964973450768501:Unit:=()
def tw3538120808355457181:Unit:=()
def tw15543289472588696492:Unit:=()
def tw12503202637855399095:Unit:=()
def tw509701088193816409:Unit:=()
def tw1219651433666135238:Unit:=()
def tw3930011235909188176:Unit:=()
def tw5849788960442108703:Unit:=()
def tw7174984610158703049:Unit:=()
def tw2519644486137458873:Unit:=()
def tw9538336366450889515:Unit:=()
def tw6649437658889490581:Unit:=()
def tw3259275211244335310:Unit:=()
def tw3113722072212096014:Unit:=()
def tw12783063240285467642:Unit:=()
def tw14240770476434216931:Unit:=()
def tw6581803418209397484:Unit:=()
def tw1613295271483148693:Unit:=()
def tw8186548765607870041:Unit:=()
def tw17721565163577046711:Unit:=()
def tw9532473460463545858:Unit:=()
def tw3670726888344918230:Unit:=()
def tw4217733223745799869:Unit:=()
def tw15210018119994439209:Unit:=()
def tw2427034467291509761:Unit:=()
def tw13752851615023150229:Unit:=()
def tw13336218719499265662:Unit:=()
def tw13092785946714466429:Unit:=()
def tw16151755379498129321:Unit:=()
def tw330466862315099232:Unit:=()
def tw3789301993438282743:Unit:=()
def tw4052948570898895392:Unit:=()
def tw3548013665374922822:Unit:=()
def tw4292457273692829733:Unit:=()
def tw15548905722110191743:Unit:=()
def tw8662399989102059819:Unit:=()
def tw5032199704437487592:Unit:=()
def tw3604261277982939415:Unit:=()
def tw7481684173777131986:Unit:=()
def tw12773383747400219159:Unit:=()
def tw13440553268832460453:Unit:=()
def tw146580031631164692:Unit:=()
def tw7484622544078317345:Unit:=()
def tw14439559664819312244:Unit:=()
def tw10709179162007646336:Unit:=()
def tw9131420839145368170:Unit:=()
def tw17866339742258347533:Unit:=()
def tw12360189233347802818:Unit:=()
def tw10781005761659678026:Unit:=()
def tw8033067274609047094:Unit:=()
def tw10333716826427193352:Unit:=()
def tw17953979778594598287:Unit:=()
def tw3817383518335320220:Unit:=()
def tw7221797713555861141:Unit:=()
def tw15223041721426505002:Unit:=()
def tw9081873930613654898:Unit:=()
def tw580396169349831617:Unit:=()
def tw5509388601214976528:Unit:=()
def tw17898736955005063835:Unit:=()
def tw6849543537971138592:Unit:=()
def tw1330612755662921187:Unit:=()
def tw7520449187416006505:Unit:=()
def tw12872253663092610800:Unit:=()
def tw4173944778503075507:Unit:=()
def tw15611173064082750416:Unit:=()
def tw18444738423645757977:Unit:=()
def tw15778089231698325716:Unit:=()
def tw16242089210281405087:Unit:=()
def tw6055772583830787195:Unit:=()
def tw9872833919073651479:Unit:=()
def tw12937993873403136938:Unit:=()
def tw16068530567448014613:Unit:=()
def tw7516674992748370631:Unit:=()
def tw2521060356757805022:Unit:=()
def tw14644280430887693715:Unit:=()
def tw1270037529861362390:Unit:=()
def tw16258930586214245684:Unit:=()
def tw3212368218284257067:Unit:=()
def tw12570735951010865941:Unit:=()
def tw10991696240934621272:Unit:=()
def tw13735910873022367227:Unit:=()
def tw10139961216121756644:Unit:=()
def tw1491606683496617512:Unit:=()
def tw9286574351250788809:Unit:=()
def tw9668356279114407985:Unit:=()
def tw4971980589566857762:Unit:=()
def tw3324535311432629033:Unit:=()
def tw503551821120591767:Unit:=()
def tw5035234466741743044:Unit:=()
def tw7558606746057736721:Unit:=()
def tw10179253186221841088:Unit:=()
def tw9526208278073786755:Unit:=()
def tw17692649570381017425:Unit:=()
def tw11525302687369259935:Unit:=()
def tw4311161191735617832:Unit:=()
def tw4373794334479218788:Unit:=()
def tw7532940696511729633:Unit:=()
def tw15906648193598216935:Unit:=()
def tw1374795275573623756:Unit:=()
def tw4846747443573319945:Unit:=()
def tw12431845642184175993:Unit:=()
def tw18036521114741559316:Unit:=()
def tw5746185246987312447:Unit:=()
def tw15116600431953128369:Unit:=()
def tw12053146098381431292:Unit:=()
def tw13987996887700724868:Unit:=()
def tw448877378185216503:Unit:=()
def tw5860206883451657961:Unit:=()
def tw13645699519490142345:Unit:=()
def tw17240856468114497145:Unit:=()
def tw10767118990816753818:Unit:=()
def tw9160236315994674592:Unit:=()
def tw6161202619025379263:Unit:=()
def tw16575447349188037440:Unit:=()
def tw16608697516561641295:Unit:=()
def tw16792765961474783579:Unit:=()
def tw6668881835698120719:Unit:=()
def tw13495387037068530613:Unit:=()
def tw5499988890336236483:Unit:=()
def tw10222658855140171733:Unit:=()
def tw16407196636135871669:Unit:=()
def tw15475272522757433992:Unit:=()
def tw6651299006422896656:Unit:=()
def tw373193469225054186:Unit:=()
def tw18441587223157419992:Unit:=()
def tw8596535733436543978:Unit:=()
def tw12046523231108350583:Unit:=()
def tw12353514575836219426:Unit:=()
def tw11243353833348268719:Unit:=()
def tw4765232549696197750:Unit:=()
def tw10326088598304438155:Unit:=()
def tw4704145196172795549:Unit:=()
def tw885182705919819656:Unit:=()
def tw14095605597586344002:Unit:=()
def tw816117008350326836:Unit:=()
def tw10366465486128987487:Unit:=()
def tw6875177338559599968:Unit:=()
def tw6679676252883001326:Unit:=()
def tw12480956836752018099:Unit:=()
def tw17951974663233759344:Unit:=()
def tw2313406687977266738:Unit:=()
def tw1449105320859848884:Unit:=()
def tw13739457088782599600:Unit:=()
def tw3857544544580656849:Unit:=()
def tw11826745461637641533:Unit:=()
def tw16429800167675723265:Unit:=()
def tw11570066513570110266:Unit:=()
def tw5519849069807139119:Unit:=()
def tw9390770697960101281:Unit:=()
def tw2730775804384737865:Unit:=()
def tw10243940577691438197:Unit:=()
def tw14141824136761208406:Unit:=()
def tw16191811499561223287:Unit:=()
def tw12787695712942491260:Unit:=()
def tw5432898768453565111:Unit:=()
def tw16961731542931743898:Unit:=()
def tw10023050384652390616:Unit:=()
def tw6118598588880449396:Unit:=()
def tw6371623090079708031:Unit:=()
def tw803881429244895406:Unit:=()
def tw10315557207359026706:Unit:=()
def tw6402103618242016105:Unit:=()
def tw6445237890904662580:Unit:=()
def tw7407130442524289740:Unit:=()
def tw3438799594589747979:Unit:=()
def tw10146606827558227050:Unit:=()
def tw5538788981582257697:Unit:=()
def tw7306472253746452611:Unit:=()
def tw1639369177318188552:Unit:=()
def tw16214043579338336968:Unit:=()
def tw5026048585840549074:Unit:=()
def tw1813966899129509409:Unit:=()
def tw7029976066487053163:Unit:=()
def tw14325452454889440405:Unit:=()
def tw13827028620505792625:Unit:=()
def tw160641638820734827:Unit:=()
def tw13860389490225029451:Unit:=()
def tw11023724730640571099:Unit:=()
def tw14963654863204478026:Unit:=()
def tw13607765008594640209:Unit:=()
def tw17090985202124170972:Unit:=()
def tw8972746923513130194:Unit:=()
def tw4675312943656503021:Unit:=()
def tw1540012879223866879:Unit:=()
def tw6373826655796882683:Unit:=()
def tw15948002907878068127:Unit:=()
def tw4605208144118042856:Unit:=()
end PySem.W.Fast
open PySem PySem.W PyProof.Rows
set_option maxRecDepth 100000 in
set_option maxHeartbeats 0 in
theorem PySem.Challenge.cw_roadsall_k22_deeds_that_arent_holds : PySem.Challenge.rw_roadsall_k22_deeds_that_arent.Holds := by
 w_on;o_law;k_head;(case hw=>w_witness2)
 k_fill
 refine L2.yG (l:=PySem.Challenge.rw_roadsall_k22_deeds_that_arent) (n:=63) (k:=200) (x:="_law_script") (CX:=L2.qy) (sp:=fun K=>Ev.oZ K (Ev.IT My.Gv My.Att My.nl My.Rs My.Tb 200 "law")) rfl (by decide) rfl ⟨rfl,by decide,by decide⟩ (fun w h Y=>PySem.W.kIn_of Y) ?F ?S ?C
 case F=>
  intro w mg fa h KX G hmg
  have T:Ev.TOk w My.Gv My.Att My.nl My.Rs My.Tb (L2.L9 KX) mg:=by
   dsimp only [L2.L9]
   refine' My.Fm KX G ?ca0 ?cb0 ?cc0 ?cd0' ?ce0 ?cf0 ?cg0 ?na0_0 ?na0_1 ?na0_2 ?na0_3 ?na0_4 ?h0 ?h1 ?h2 ?h3 ?h4 ?h5 ?h6 ?h7 ?h8 ?h9 ?h10 ?h11 ?h12 ?h13 ?h14 ?h15 ?h16 ?h17 ?h18 ?h19 ?h20 ?h22 ?h23 ?h24 ?h25 ?h27 ?h28 ?h29 ?h30 ?h31 ?h32 ?h33 ?h34 ?h35 ?h36 ?h37 ?h39 ?h40 ?h41 ?h42 ?h43 ?h44 ?a21 ?w21 ?l21 ?c21 ?k21 ?a26 ?w26 ?l26 ?c26 ?k26 ?a38 ?w38 ?l38 ?c38 ?k38 ?gv0 ?z (My.E5 KX G ?ea0 ?en0 ?ea1 ?en1 ?ea2 ?en2 ?ea3 ?en3 ?ea4 ?en4 ?ea5 ?en5 ?ev ?env ?xg3 ?xh3 ?xe3 ?xc3 ?xb3 ?xd3 ?xo3 ?xi3 ?xs3 ?xv3 ?xr3 ?xk3_0 ?xm3_0 ?xk3_1 ?xk3_2 ?xk3_3 ?xm3_3 ?xk3_4 ?xk3_5)
   case ea0 | en0 | ea1 | en1 | ea2 | en2 | ea3 | en3 | ea4 | en4 | ea5 | en5 | ev | env | xg3 | xh3 | xe3 | xc3 | xb3 | xd3 | xo3 | xi3 | xs3 | xv3 | xk3_0 | xm3_0 | xk3_1 | xk3_2 | xk3_3 | xm3_3 | xk3_4 | xk3_5=>first | k_is | rfl | kernel_rfl
   case xr3=>exact⟨_,_,_,_,_,_,_,_,_,_,_,_,_,_,_,_,by k_is,by first | k_is | kernel_rfl,by first | k_is | kernel_rfl,by k_is⟩
   (case ca0=>k_is)
   (case cb0=>k_is)
   (case cc0=>k_is)
   (case cd0'=>k_is)
   (case ce0=>k_is)
   (case cf0=>k_is)
   (case cg0=>k_is)
   (case na0_0=>k_is)
   (case na0_1=>k_is)
   (case na0_2=>k_is)
   (case na0_3=>k_is)
   (case na0_4=>k_is)
   case h0 | h1 | h2 | h3 | h4 | h5 | h6 | h7 | h8 | h9 | h10 | h11 | h12 | h13 | h14 | h15 | h16 | h17 | h18 | h19 | h20 | h22 | h23 | h24 | h25 | h27 | h28 | h29 | h30 | h31 | h32 | h33 | h34 | h35 | h36 | h37 | h39 | h40 | h41 | h42 | h43 | h44=>exact⟨_,_,_,_,_,_,_,_,_,_,by k_is,by k_is,by k_is,by k_is⟩
   (case a21=>k_is)
   (case w21=>k_is)
   (case l21=>k_is)
   (case c21=>k_is)
   (case k21=>k_is)
   (case a26=>k_is)
   (case w26=>k_is)
   (case l26=>k_is)
   (case c26=>k_is)
   (case k26=>k_is)
   (case a38=>k_is)
   (case w38=>k_is)
   (case l38=>k_is)
   (case c38=>k_is)
   (case k38=>k_is)
   case gv0=>exact⟨_,by k_is⟩
   case z=>
    intro x hx
    simp only [Ev.Cq,List.mem_cons,List.not_mem_nil,or_false] at hx
    rcases hx with rfl | rfl | rfl | rfl | rfl | rfl | rfl | rfl | rfl | rfl | rfl | rfl | rfl | rfl | rfl | rfl | rfl | rfl | rfl <;> k_is
  obtain⟨f,fd,h1⟩:=T.fn My.sG (by simp [My.Tb])
  have e0:=hmg.symm.trans (h1.gl (by decide +kernel))
  cases e0
  refine⟨fd,?_,fun base kb nb=>((Ev.w4 T 200).1 My.sG (by simp [My.Tb]) _ fd h1.fn).1⟩
  obtain⟨oc,od,kV,doc,pm,an,cdv,ct,osl,rfl,lk,hcd⟩:=h1.fn.ex
  exact fun s v=>.of_eq rfl
 case S=>exact fun w H a ns hl hO hS=>My.zR hl hO hS
 case C=>exact fun _ _ _ _ z=>z
